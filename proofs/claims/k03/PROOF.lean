import PyProof.Rows.All
import Wide.All
import OpenK.AllK
import Wide.FinOn
import HandS.ForMost
import HandS.Exc
import HandS.Property
import HandS.ClsMeth
import HandS.Evl
import HandS.IsInst
import HandS.Zip
import HandS.Star
import HandS.TupAny
import HandS.Conv
import HandS.Walk
import HandS.SetFor
import HandS.Strs
import KE.GoesEnum
import HandS.Gcd
import KE.KMathGC
import KE.KDictZip
import KE.GoesMore
import KE.GoesZip
import KE.KDictKeyed
import HandS.NoneIn
import HandS.Dict
import HandS.SetKeys
import HandS.More
import PyProof.TupleOfSeq
import HandS.OwnEq
import HandS.TupLen
import HandS.ExcOwn
import HandS.TryMany
import HandS.WordsExc
import KE.KExcInit
import PySem.Challenge.RW_bentlines_k03_parts_and_order
set_option Elab.async false
set_option linter.all false
set_option maxRecDepth 100000
set_option maxHeartbeats 4000000
/-! Bl: what a pure expression, test, statement of the program is worth, told over data (D), the heap apart. -/
namespace Bl
open PySem PySem.Spec PyProof.Rows L2

/-! ### data -/
inductive D where
  | non | bl (b : Bool) | int (i : Int) | str (x : Str) | ty (n : String)
  | tup (l : List D) | tupN (l : List D) | lst (l : List D) | par (l : List D) | lstV (l : List D)
  | ins (C : Addr) (fs : List (Str × D))
  | dT (kvs : List (List Key × D))

def ExS (S : List Addr) (H H' : Hp) : Prop := ∀ a o, a ∉ S → H a = some o → H' a = some o
theorem ExS.refl (S : List Addr) (H : Hp) : ExS S H H := fun _ _ _ h => h
theorem ExS.trans {S : List Addr} {H H1 H2 : Hp} (a : ExS S H H1) (b : ExS S H1 H2) : ExS S H H2 := fun x o n h => b x o n (a x o n h)
theorem ExS.of {S : List Addr} {H H' : Hp} (e : Evl.Ex H H') : ExS S H H' := fun a o _ h => e a o h

/-- the tuple at a as data may lean on it: not one of the mutable ones (S): a key of dicts may be it -/
def TupA (S : List Addr) (H : Hp) (a : Addr) (xs : List V) : Prop := a ∉ S ∧ H a = some (.tup xs)
/-- a tuple that is known to have no dict of its own (its type's methods are found), or one of the written part -/
def TupN (K : PySem.W.Frag) (S : List Addr) (H : Hp) (a : Addr) (xs : List V) : Prop :=
  (a ∉ S ∧ ∃ o : Obj, o.dict = none ∧ H a = some (.frz o (.tup xs))) ∨
    ∃ (o : Obj) (its : Array Value) (n : Nat), o.dict = none ∧ K.lookup a = some o ∧ o.cls = .type "tuple" ∧ o.data = .seq its n ∧ its.size ≤ sizeLine ∧ Vals xs its.toList
def LstA (K : PySem.W.Frag) (S : List Addr) (H : Hp) (a : Addr) (xs : List V) : Prop :=
  (a ∉ S ∧ Rd H a (.lst xs)) ∨
    ∃ (o : Obj) (its : Array Value) (n : Nat), K.lookup a = some o ∧ o.cls = .type "list" ∧ o.dict = none ∧ o.data = .seq its n ∧ its.size ≤ sizeLine ∧ Vals xs its.toList
theorem TupA.sq {K : PySem.W.Frag} {S : List Addr} {H : Hp} {a : Addr} {xs : List V} (h : TupA S H a xs) : SqT K H a xs := .inl (.inl h.2)
theorem TupN.sq {K : PySem.W.Frag} {S : List Addr} {H : Hp} {a : Addr} {xs : List V} (h : TupN K S H a xs) : SqT K H a xs := by
  rcases h with ⟨_, o, _, h⟩ | ⟨o, its, n, _, h⟩
  · exact .inl (.inr ⟨o, h⟩)
  · exact .inr ⟨o, its, n, h⟩
theorem LstA.sq {K : PySem.W.Frag} {S : List Addr} {H : Hp} {a : Addr} {xs : List V} (h : LstA K S H a xs) : SqL K H a xs := by
  rcases h with ⟨_, h⟩ | h
  · exact .inl h
  · exact .inr h
theorem rd_mono {S : List Addr} {H H' : Hp} {a : Addr} {u : HO} (e : ExS S H H') (n : a ∉ S) (h : Rd H a u) : Rd H' a u := by
  rcases h with h | ⟨o, h⟩
  · exact .inl (e a _ n h)
  · exact .inr ⟨o, e a _ n h⟩
theorem TupN.mono {K : PySem.W.Frag} {S : List Addr} {H H' : Hp} {a : Addr} {xs : List V} (e : ExS S H H') (h : TupN K S H a xs) : TupN K S H' a xs := by
  rcases h with ⟨n, o, d, h⟩ | h
  · exact .inl ⟨n, o, d, e a _ n h⟩
  · exact .inr h
theorem LstA.mono {K : PySem.W.Frag} {S : List Addr} {H H' : Hp} {a : Addr} {xs : List V} (e : ExS S H H') (h : LstA K S H a xs) : LstA K S H' a xs := by
  rcases h with ⟨n, h⟩ | h
  · exact .inl ⟨n, rd_mono e n h⟩
  · exact .inr h

inductive G where
  | v (x : V) (d : D) | vs (xs : List V) (ds : List D) | fl (xs : List (Str × V)) (ds : List (Str × D)) | kd (xs : List (List Key × V)) (ds : List (List Key × D))
inductive DenG (K : PySem.W.Frag) (S : List Addr) (H : Hp) : G → Prop where
  | non : DenG K S H (.v .non .non)
  | bl (b : Bool) : DenG K S H (.v (.bl b) (.bl b))
  | int (i : Int) : DenG K S H (.v (.int i) (.int i))
  | str (x : Str) : DenG K S H (.v (.str x) (.str x))
  | ty (n : String) : DenG K S H (.v (.ty n) (.ty n))
  | tup {a : Addr} {xs : List V} {ds : List D} (h : TupA S H a xs) (r : DenG K S H (.vs xs ds)) : DenG K S H (.v (.ref a) (.tup ds))
  | tupN {a : Addr} {xs : List V} {ds : List D} (h : TupN K S H a xs) (r : DenG K S H (.vs xs ds)) : DenG K S H (.v (.ref a) (.tupN ds))
  | par {a : Addr} {xs : List V} {ds : List D} (n : a ∉ S) (h : Rd H a (.tup xs)) (r : DenG K S H (.vs xs ds)) : DenG K S H (.v (.ref a) (.par ds))
  | lst {a : Addr} {xs : List V} {ds : List D} (h : LstA K S H a xs) (r : DenG K S H (.vs xs ds)) : DenG K S H (.v (.ref a) (.lst ds))
  | lstV {a : Addr} {xs : List V} {ds : List D} (n : a ∉ S) (h : H a = some (.lst xs)) (r : DenG K S H (.vs xs ds)) : DenG K S H (.v (.ref a) (.lstV ds))
  | ins {a C dx : Addr} {fs : List (Str × V)} {gs : List (Str × D)} (n : a ∉ S) (h : H a = some (.ins C dx fs)) (r : DenG K S H (.fl fs gs)) : DenG K S H (.v (.ref a) (.ins C gs))
  | dT {a : Addr} {kvs : List (List Key × V)} {gs : List (List Key × D)} (n : a ∉ S) (h : H a = some (.dT kvs)) (r : DenG K S H (.kd kvs gs)) : DenG K S H (.v (.ref a) (.dT gs))
  | nil : DenG K S H (.vs [] [])
  | cons {x : V} {d : D} {xs : List V} {ds : List D} (h : DenG K S H (.v x d)) (r : DenG K S H (.vs xs ds)) : DenG K S H (.vs (x :: xs) (d :: ds))
  | fnil : DenG K S H (.fl [] [])
  | fcons {f : Str} {x : V} {d : D} {xs : List (Str × V)} {ds : List (Str × D)} (h : DenG K S H (.v x d)) (r : DenG K S H (.fl xs ds)) : DenG K S H (.fl ((f, x) :: xs) ((f, d) :: ds))
  | knil : DenG K S H (.kd [] [])
  | kcons {k : List Key} {x : V} {d : D} {xs : List (List Key × V)} {ds : List (List Key × D)} (h : DenG K S H (.v x d)) (r : DenG K S H (.kd xs ds)) : DenG K S H (.kd ((k, x) :: xs) ((k, d) :: ds))
abbrev Den (K : PySem.W.Frag) (S : List Addr) (H : Hp) (x : V) (d : D) : Prop := DenG K S H (.v x d)
abbrev Dens (K : PySem.W.Frag) (S : List Addr) (H : Hp) (xs : List V) (ds : List D) : Prop := DenG K S H (.vs xs ds)
abbrev Flds (K : PySem.W.Frag) (S : List Addr) (H : Hp) (xs : List (Str × V)) (ds : List (Str × D)) : Prop := DenG K S H (.fl xs ds)
abbrev KDs (K : PySem.W.Frag) (S : List Addr) (H : Hp) (xs : List (List Key × V)) (ds : List (List Key × D)) : Prop := DenG K S H (.kd xs ds)

section
variable {K : PySem.W.Frag} {S S' : List Addr} {H H' : Hp}
theorem DenG.mono (e : ExS S H H') {g : G} (h : DenG K S H g) : DenG K S H' g := by
  induction h with
  | non => exact .non
  | bl b => exact .bl b
  | int b => exact .int b
  | str b => exact .str b
  | ty b => exact .ty b
  | tup h _ r => exact .tup ⟨h.1, e _ _ h.1 h.2⟩ r
  | tupN h _ r => exact .tupN (h.mono e) r
  | par n h _ r => exact .par n (rd_mono e n h) r
  | lst h _ r => exact .lst (h.mono e) r
  | lstV n h _ r => exact .lstV n (e _ _ n h) r
  | ins n h _ r => exact .ins n (e _ _ n h) r
  | dT n h _ r => exact .dT n (e _ _ n h) r
  | nil => exact .nil
  | cons _ _ h r => exact .cons h r
  | fnil => exact .fnil
  | fcons _ _ h r => exact .fcons h r
  | knil => exact .knil
  | kcons _ _ h r => exact .kcons h r
/-- fewer mutable ones -/
theorem DenG.less (e : ∀ a, a ∈ S' → a ∈ S) {g : G} (h : DenG K S H g) : DenG K S' H g := by
  induction h with
  | non => exact .non
  | bl b => exact .bl b
  | int b => exact .int b
  | str b => exact .str b
  | ty b => exact .ty b
  | tup h _ r => exact .tup ⟨fun q => h.1 (e _ q), h.2⟩ r
  | tupN h _ r => exact .tupN (h.imp (fun z => ⟨fun q => z.1 (e _ q), z.2⟩) id) r
  | par n h _ r => exact .par (fun q => n (e _ q)) h r
  | lst h _ r => exact .lst (h.imp (fun z => ⟨fun q => z.1 (e _ q), z.2⟩) id) r
  | lstV n h _ r => exact .lstV (fun q => n (e _ q)) h r
  | ins n h _ r => exact .ins (fun q => n (e _ q)) h r
  | dT n h _ r => exact .dT (fun q => n (e _ q)) h r
  | nil => exact .nil
  | cons _ _ h r => exact .cons h r
  | fnil => exact .fnil
  | fcons _ _ h r => exact .fcons h r
  | knil => exact .knil
  | kcons _ _ h r => exact .kcons h r
/-- more mutable ones, each of which H does not know -/
theorem nin_more (e : ∀ a, a ∈ S' → a ∈ S ∨ H a = none) {a : Addr} {u : HO} (n : a ∉ S) (h : H a = some u) : a ∉ S' := fun q => by
  rcases e a q with z | z
  · exact n z
  · rw [z] at h
    cases h
theorem rd_some {a : Addr} {u : HO} (h : Rd H a u) : ∃ w, H a = some w := by
  rcases h with h | ⟨o, h⟩
  · exact ⟨_, h⟩
  · exact ⟨_, h⟩
theorem DenG.more (e : ∀ a, a ∈ S' → a ∈ S ∨ H a = none) {g : G} (h : DenG K S H g) : DenG K S' H g := by
  induction h with
  | non => exact .non
  | bl b => exact .bl b
  | int b => exact .int b
  | str b => exact .str b
  | ty b => exact .ty b
  | tup h _ r => exact .tup ⟨nin_more e h.1 h.2, h.2⟩ r
  | tupN h _ r => exact .tupN (h.imp (fun z => ⟨z.2.elim fun _ q => nin_more e z.1 q.2, z.2⟩) id) r
  | par n h _ r => exact .par ((rd_some h).elim fun _ q => nin_more e n q) h r
  | lst h _ r => exact .lst (h.imp (fun z => ⟨(rd_some z.2).elim fun _ q => nin_more e z.1 q, z.2⟩) id) r
  | lstV n h _ r => exact .lstV (nin_more e n h) h r
  | ins n h _ r => exact .ins (nin_more e n h) h r
  | dT n h _ r => exact .dT (nin_more e n h) h r
  | nil => exact .nil
  | cons _ _ h r => exact .cons h r
  | fnil => exact .fnil
  | fcons _ _ h r => exact .fcons h r
  | knil => exact .knil
  | kcons _ _ h r => exact .kcons h r
theorem Den.mono (e : ExS S H H') {v : V} {d : D} (h : Den K S H v d) : Den K S H' v d := DenG.mono e h
theorem Dens.mono (e : ExS S H H') {v : List V} {d : List D} (h : Dens K S H v d) : Dens K S H' v d := DenG.mono e h
theorem Dens.uncons {x : V} {d : D} {xs : List V} {ds : List D} (h : Dens K S H (x :: xs) (d :: ds)) : Den K S H x d ∧ Dens K S H xs ds := by
  cases h with
  | cons h r => exact ⟨h, r⟩
theorem Dens.length : ∀ {xs : List V} {ds : List D}, Dens K S H xs ds → xs.length = ds.length
  | [], [], _ => rfl
  | [], _ :: _, h => nomatch h
  | _ :: _, [], h => nomatch h
  | _ :: _, _ :: _, h => congrArg (· + 1) (Dens.length h.uncons.2)
theorem Dens.get : ∀ {xs : List V} {ds : List D} {i : Nat} {d : D}, Dens K S H xs ds → ds[i]? = some d → ∃ x, xs[i]? = some x ∧ Den K S H x d
  | [], [], _, _, _, e => by simp at e
  | [], _ :: _, _, _, h, _ => nomatch h
  | _ :: _, [], _, _, h, _ => nomatch h
  | x :: _, _ :: _, 0, _, h, e => ⟨x, rfl, (Option.some.inj e) ▸ h.uncons.1⟩
  | _ :: _, _ :: _, i + 1, _, h, e => Dens.get (i := i) h.uncons.2 e
theorem Dens.get' : ∀ {xs : List V} {ds : List D} {i : Nat} {x : V}, Dens K S H xs ds → xs[i]? = some x → ∃ d, ds[i]? = some d ∧ Den K S H x d
  | [], [], _, _, _, e => by simp at e
  | [], _ :: _, _, _, h, _ => nomatch h
  | _ :: _, [], _, _, h, _ => nomatch h
  | _ :: _, d :: _, 0, _, h, e => ⟨d, rfl, (Option.some.inj e) ▸ h.uncons.1⟩
  | _ :: _, _ :: _, i + 1, _, h, e => Dens.get' (i := i) h.uncons.2 e
theorem Dens.append : ∀ {xs ys : List V} {ds es : List D}, Dens K S H xs ds → Dens K S H ys es → Dens K S H (xs ++ ys) (ds ++ es)
  | [], _, [], _, _, r => r
  | [], _, _ :: _, _, h, _ => nomatch h
  | _ :: _, _, [], _, h, _ => nomatch h
  | _ :: _, _, _ :: _, _, h, r => .cons h.uncons.1 (Dens.append h.uncons.2 r)
theorem Dens.take : ∀ {xs : List V} {ds : List D} (n : Nat), Dens K S H xs ds → Dens K S H (xs.take n) (ds.take n)
  | [], [], 0, _ => .nil
  | [], [], _ + 1, _ => .nil
  | [], _ :: _, _, h => nomatch h
  | _ :: _, [], _, h => nomatch h
  | _ :: _, _ :: _, 0, _ => .nil
  | _ :: _, _ :: _, n + 1, h => .cons h.uncons.1 (Dens.take n h.uncons.2)
theorem Dens.drop : ∀ {xs : List V} {ds : List D} (n : Nat), Dens K S H xs ds → Dens K S H (xs.drop n) (ds.drop n)
  | [], [], 0, _ => .nil
  | [], [], _ + 1, _ => .nil
  | [], _ :: _, _, h => nomatch h
  | _ :: _, [], _, h => nomatch h
  | _ :: _, _ :: _, 0, h => h
  | _ :: _, _ :: _, n + 1, h => Dens.drop n h.uncons.2
theorem Dens.reverse : ∀ {xs : List V} {ds : List D}, Dens K S H xs ds → Dens K S H xs.reverse ds.reverse
  | [], [], _ => .nil
  | [], _ :: _, h => nomatch h
  | _ :: _, [], h => nomatch h
  | _ :: _, _ :: _, h => by
    rw [List.reverse_cons, List.reverse_cons]
    exact (Dens.reverse h.uncons.2).append (.cons h.uncons.1 .nil)
theorem Dens.set {x : V} {d : D} (hx : Den K S H x d) : ∀ {xs : List V} {ds : List D} (i : Nat), Dens K S H xs ds → Dens K S H (xs.set i x) (ds.set i d)
  | [], [], _, _ => .nil
  | [], _ :: _, _, h => nomatch h
  | _ :: _, [], _, h => nomatch h
  | _ :: _, _ :: _, 0, h => .cons hx h.uncons.2
  | _ :: _, _ :: _, i + 1, h => .cons h.uncons.1 (Dens.set hx i h.uncons.2)
/-- scalars alone: data tell the values -/
def scV : D → Option V
  | .non => some .non
  | .bl b => some (.bl b)
  | .int i => some (.int i)
  | .str x => some (.str x)
  | .ty n => some (.ty n)
  | _ => none
theorem Den.sc {v w : V} {d : D} (h : Den K S H v d) (e : scV d = some w) : v = w := by
  cases h <;> first | exact Option.some.inj e | cases e
theorem Den.of_int {v : V} {i : Int} (h : Den K S H v (.int i)) : v = .int i := by cases h; rfl
theorem Den.of_bl {v : V} {b : Bool} (h : Den K S H v (.bl b)) : v = .bl b := by cases h; rfl
theorem Den.of_str {v : V} {b : Str} (h : Den K S H v (.str b)) : v = .str b := by cases h; rfl
/-- tuples of whatever make -/
def tupL : D → Option (List D)
  | .tup l => some l
  | .tupN l => some l
  | .par l => some l
  | _ => none
theorem Den.of_tup {v : V} {d : D} {ds : List D} (h : Den K S H v d) (e : tupL d = some ds) : ∃ a xs, v = .ref a ∧ SqT K H a xs ∧ Dens K S H xs ds := by
  cases h with
  | tup h r => cases e; exact ⟨_, _, rfl, h.sq, r⟩
  | tupN h r => cases e; exact ⟨_, _, rfl, h.sq, r⟩
  | par n h r => cases e; exact ⟨_, _, rfl, .inl h, r⟩
  | _ => cases e
theorem Den.of_lst {v : V} {ds : List D} (h : Den K S H v (.lst ds)) : ∃ a xs, v = .ref a ∧ LstA K S H a xs ∧ Dens K S H xs ds := by
  cases h with
  | lst h r => exact ⟨_, _, rfl, h, r⟩
theorem DenG.of_tup {v : V} {d : D} {ds : List D} (h : DenG K S H (.v v d)) (e : tupL d = some ds) : ∃ a xs, v = .ref a ∧ SqT K H a xs ∧ Dens K S H xs ds := Den.of_tup h e
theorem DenG.of_lst {v : V} {ds : List D} (h : DenG K S H (.v v (.lst ds))) : ∃ a xs, v = .ref a ∧ LstA K S H a xs ∧ Dens K S H xs ds := Den.of_lst h
theorem Dens.ints : ∀ {xs : List V} {ns : List Int}, Dens K S H xs (ns.map D.int) → xs = ns.map V.int
  | [], [], _ => rfl
  | [], _ :: _, h => nomatch h
  | _ :: _, [], h => nomatch h
  | x :: xs, n :: ns, h => by
    have h' : Dens K S H (x :: xs) (D.int n :: ns.map D.int) := h
    rw [h'.uncons.1.of_int, Dens.ints h'.uncons.2] <;> rfl
theorem Dens.of_ints : ∀ (ns : List Int), Dens K S H (ns.map V.int) (ns.map D.int)
  | [] => .nil
  | n :: ns => .cons (.int n) (Dens.of_ints ns)
theorem Dens.bls : ∀ {xs : List V} {ns : List Bool}, Dens K S H xs (ns.map D.bl) → xs = ns.map V.bl
  | [], [], _ => rfl
  | [], _ :: _, h => nomatch h
  | _ :: _, [], h => nomatch h
  | x :: xs, n :: ns, h => by
    have h' : Dens K S H (x :: xs) (D.bl n :: ns.map D.bl) := h
    rw [h'.uncons.1.of_bl, Dens.bls h'.uncons.2] <;> rfl
end

/-! ### what a slot, a value may be: data, or one of the mutable lists -/
inductive R where
  | d (x : D) | own (k : Nat)
inductive DenR (K : PySem.W.Frag) (S : List Addr) (H : Hp) : V → R → Prop where
  | d {v : V} {x : D} (h : Den K S H v x) : DenR K S H v (.d x)
  | own {a : Addr} {k : Nat} (h : S[k]? = some a) : DenR K S H (.ref a) (.own k)
theorem DenR.mono {K : PySem.W.Frag} {S : List Addr} {H H' : Hp} {v : V} {r : R} (e : ExS S H H') (h : DenR K S H v r) : DenR K S H' v r := by
  cases h with
  | d h => exact .d (h.mono e)
  | own h => exact .own h
abbrev Sta := List (Option R)
structure Slots (K : PySem.W.Frag) (S : List Addr) (H : Hp) (σ : L2.St) (st : Sta) : Prop where
  len : σ.length = st.length
  sl : ∀ (i : Nat) (r : R), st[i]? = some (some r) → ∃ v, σ[i]? = some (some v) ∧ DenR K S H v r
/-- a mutable thing: a list, a dict with keys of tuples, a dict from ints to mutable lists, a list of mutable things (its ints are idle) -/
inductive OB where
  | l (xs : List D) | t (gs : List (List Key × D)) | g (gs : List (Int × Nat)) | r (gs : List (Int × Nat))
def GR (S : List Addr) (kv : Key × V) (g : Int × Nat) : Prop := kv.1 = Sum.inl g.1 ∧ ∃ b, kv.2 = .ref b ∧ S[g.2]? = some b
inductive ObAt (K : PySem.W.Frag) (S : List Addr) (H : Hp) (a : Addr) : OB → Prop where
  | l {xs : List V} {l : List D} (h : H a = some (.lst xs)) (r : Dens K S H xs l) : ObAt K S H a (.l l)
  | t {kvs : List (List Key × V)} {gs : List (List Key × D)} (h : H a = some (.dT kvs)) (r : KDs K S H kvs gs) : ObAt K S H a (.t gs)
  | g {kvs : List (Key × V)} {gs : List (Int × Nat)} (h : H a = some (.dK kvs)) (r : Paired (GR S) kvs gs) : ObAt K S H a (.g gs)
  | r {kvs : List (Key × V)} {gs : List (Int × Nat)} (h : H a = some (.lst (kvs.map (·.2)))) (r : Paired (GR S) kvs gs) : ObAt K S H a (.r gs)
theorem ObAt.has {K : PySem.W.Frag} {S : List Addr} {H : Hp} {a : Addr} {b : OB} (h : ObAt K S H a b) : ∃ u, H a = some u := by
  cases h with
  | l h _ => exact ⟨_, h⟩
  | t h _ => exact ⟨_, h⟩
  | g h _ => exact ⟨_, h⟩
  | r h _ => exact ⟨_, h⟩
theorem ObAt.keep {K : PySem.W.Frag} {S : List Addr} {H H' : Hp} {a : Addr} {b : OB} (h : ObAt K S H a b) (e : ExS S H H') (k : ∀ u, H a = some u → H' a = some u) : ObAt K S H' a b := by
  cases h with
  | l h r => exact .l (k _ h) (r.mono e)
  | t h r => exact .t (k _ h) (DenG.mono e r)
  | g h r => exact .g (k _ h) r
  | r h r => exact .r (k _ h) r
theorem gr_imp {S S' : List Addr} (f : ∀ (k : Nat) a, S[k]? = Option.some a → S'[k]? = Option.some a) {kv : Key × V} {g : Int × Nat} (h : GR S kv g) : GR S' kv g :=
  ⟨h.1, h.2.elim fun b z => ⟨b, z.1, f _ _ z.2⟩⟩
theorem paired_imp' {α β : Type} {F G : α → β → Prop} (h : ∀ a b, F a b → G a b) : ∀ {l : List α} {m : List β}, Paired F l m → Paired G l m
  | _, _, .nil => .nil
  | _, _, .cons r t => .cons (h _ _ r) (paired_imp' h t)
theorem ObAt.more {K : PySem.W.Frag} {S S' : List Addr} {H : Hp} {a : Addr} {b : OB} (h : ObAt K S H a b) (e : ∀ a, a ∈ S' → a ∈ S ∨ H a = none) (f : ∀ (k : Nat) a, S[k]? = Option.some a → S'[k]? = Option.some a) : ObAt K S' H a b := by
  cases h with
  | l h r => exact .l h (DenG.more e r)
  | t h r => exact .t h (DenG.more e r)
  | g h r => exact .g h (paired_imp' (fun _ _ => gr_imp f) r)
  | r h r => exact .r h (paired_imp' (fun _ _ => gr_imp f) r)
structure Owns (K : PySem.W.Frag) (S : List Addr) (H : Hp) (ow : List OB) : Prop where
  len : S.length = ow.length
  nd : S.Nodup
  ob : ∀ (k : Nat) (b : OB), ow[k]? = some b → ∃ a, S[k]? = some a ∧ ObAt K S H a b
theorem Owns.at_ {K : PySem.W.Frag} {S : List Addr} {H : Hp} {ow : List OB} (o : Owns K S H ow) (k : Nat) (l : List D) (h : ow[k]? = some (.l l)) : ∃ a xs, S[k]? = some a ∧ H a = some (.lst xs) ∧ Dens K S H xs l := by
  obtain ⟨a, h1, h2⟩ := o.ob k _ h
  cases h2 with
  | l h r => exact ⟨a, _, h1, h, r⟩
theorem Slots.mono {K : PySem.W.Frag} {S : List Addr} {H H' : Hp} {σ : L2.St} {st : Sta} (e : ExS S H H') (h : Slots K S H σ st) : Slots K S H' σ st :=
  ⟨h.len, fun i r q => let ⟨v, z, y⟩ := h.sl i r q; ⟨v, z, y.mono e⟩⟩
theorem Owns.ex {K : PySem.W.Frag} {S : List Addr} {H H' : Hp} {ow : List OB} (e : Evl.Ex H H') (h : Owns K S H ow) : Owns K S H' ow :=
  ⟨h.len, h.nd, fun k l q => let ⟨a, z, y⟩ := h.ob k l q; ⟨a, z, y.keep (.of e) fun u hu => e _ _ hu⟩⟩
theorem Slots.set {K : PySem.W.Frag} {S : List Addr} {H : Hp} {σ : L2.St} {st : Sta} {v : V} {r : R} (h : Slots K S H σ st) (i : Nat) (hr : DenR K S H v r) : Slots K S H (σ.set i (some v)) (st.set i (some r)) := by
  refine ⟨by rw [List.length_set, List.length_set, h.len], fun j q e => ?_⟩
  by_cases hj : i = j
  · subst hj
    by_cases hl : i < st.length
    · rw [List.getElem?_set_self hl] at e
      have e' := Option.some.inj (Option.some.inj e)
      subst e'
      exact ⟨v, List.getElem?_set_self (by rw [h.len]; exact hl), hr⟩
    · rw [List.getElem?_eq_none (by rw [List.length_set]; omega)] at e
      cases e
  · rw [List.getElem?_set_ne hj] at e
    obtain ⟨w, z, y⟩ := h.sl j q e
    exact ⟨w, by rw [List.getElem?_set_ne hj]; exact z, y⟩
/-- fewer things known -/
theorem Slots.weak {K : PySem.W.Frag} {S : List Addr} {H : Hp} {σ : L2.St} {st st' : Sta} (h : Slots K S H σ st) (hl : st.length = st'.length) (hk : ∀ (i : Nat) r, st'[i]? = some (some r) → st[i]? = some (some r)) : Slots K S H σ st' :=
  ⟨h.len.trans hl, fun i r e => h.sl i r (hk i r e)⟩
def wipeD (st : Sta) : List Nat → Sta
  | [] => st
  | v :: vs => (wipeD st vs).set v none
theorem wipeD_length (st : Sta) : ∀ vs : List Nat, (wipeD st vs).length = st.length
  | [] => rfl
  | v :: vs => by unfold wipeD; rw [List.length_set, wipeD_length st vs]
theorem Slots.wipe {K : PySem.W.Frag} {S : List Addr} {H : Hp} {σ : L2.St} {st : Sta} (h : Slots K S H σ st) : ∀ vs : List Nat, Slots K S H (L2.wipe σ vs) (wipeD st vs)
  | [] => h
  | v :: vs => by
    have ih := h.wipe vs
    unfold L2.wipe wipeD
    refine ⟨by rw [List.length_set, List.length_set, ih.len], fun j q e => ?_⟩
    by_cases hj : v = j
    · subst hj
      by_cases hl : v < (wipeD st vs).length
      · rw [List.getElem?_set_self hl] at e
        cases e
      · rw [List.getElem?_eq_none (by rw [List.length_set]; omega)] at e
        cases e
    · rw [List.getElem?_set_ne hj] at e
      obtain ⟨w, z, y⟩ := ih.sl j q e
      exact ⟨w, by rw [List.getElem?_set_ne hj]; exact z, y⟩

/-- one of the mutable lists stands apart from a new object -/
theorem Owns.nin {K : PySem.W.Frag} {S : List Addr} {H : Hp} {ow : List OB} (h : Owns K S H ow) {p : Addr} (hp : H p = none) : p ∉ S := fun q => by
  obtain ⟨k, hk, e⟩ := List.getElem_of_mem q
  have hk2 : k < ow.length := by rw [← h.len]; exact hk
  obtain ⟨a, z, y⟩ := h.ob k _ (List.getElem?_eq_getElem hk2)
  have e2 : S[k]? = some p := by rw [List.getElem?_eq_getElem hk, e]
  rw [e2] at z
  have z' := Option.some.inj z
  subst z'
  obtain ⟨u, hu⟩ := y.has
  rw [hp] at hu
  cases hu
theorem new_tup {K : PySem.W.Frag} {S : List Addr} {H : Hp} {ow : List OB} {p : Addr} {xs : List V} {ds : List D} (o : Owns K S H ow) (hp : H p = none) (r : Dens K S H xs ds) : Den K S (upd H p (.tup xs)) (.ref p) (.tup ds) :=
  .tup ⟨o.nin hp, upd_same⟩ (r.mono (.of (Evl.Ex.new hp)))
theorem new_tupN {K : PySem.W.Frag} {S : List Addr} {H : Hp} {ow : List OB} {p : Addr} {xs : List V} {ds : List D} {ob : Obj} (o : Owns K S H ow) (hp : H p = none) (hd : ob.dict = none) (r : Dens K S H xs ds) : Den K S (upd H p (.frz ob (.tup xs))) (.ref p) (.tupN ds) :=
  .tupN (.inl ⟨o.nin hp, ob, hd, upd_same⟩) (r.mono (.of (Evl.Ex.new hp)))
theorem new_par {K : PySem.W.Frag} {S : List Addr} {H : Hp} {ow : List OB} {p : Addr} {xs : List V} {ds : List D} (o : Owns K S H ow) (hp : H p = none) (r : Dens K S H xs ds) : Den K S (upd H p (.tup xs)) (.ref p) (.par ds) :=
  .par (o.nin hp) (.inl upd_same) (r.mono (.of (Evl.Ex.new hp)))
theorem Den.lstW {K : PySem.W.Frag} {S : List Addr} {H : Hp} {v : V} {l : List D} (h : Den K S H v (.lstV l)) : Den K S H v (.lst l) := by
  cases h with
  | lstV n h r => exact .lst (.inl ⟨n, .inl h⟩) r
theorem new_lstV {K : PySem.W.Frag} {S : List Addr} {H : Hp} {ow : List OB} {p : Addr} {xs : List V} {ds : List D} (o : Owns K S H ow) (hp : H p = none) (r : Dens K S H xs ds) : Den K S (upd H p (.lst xs)) (.ref p) (.lstV ds) :=
  .lstV (o.nin hp) upd_same (r.mono (.of (Evl.Ex.new hp)))
theorem new_lst {K : PySem.W.Frag} {S : List Addr} {H : Hp} {ow : List OB} {p : Addr} {xs : List V} {ds : List D} (o : Owns K S H ow) (hp : H p = none) (r : Dens K S H xs ds) : Den K S (upd H p (.lst xs)) (.ref p) (.lst ds) :=
  .lst (.inl ⟨o.nin hp, .inl upd_same⟩) (r.mono (.of (Evl.Ex.new hp)))
end Bl
set_option Elab.async false
set_option linter.all false
set_option maxRecDepth 100000
set_option maxHeartbeats 4000000
/-! BlTup: tuples as they are made: each known to have no dict of its own -/
namespace Bl
open PySem PySem.Spec PyProof.Rows L2
section
variable {X : Cx} {es : List Expr} {pos p : Pos}
/-- a new tuple object -/
abbrev tobj (us : List Value) : Obj := { cls := .type "tuple", data := .seq us.toArray }
def tTupF (t : TA) : TE := fun σ H Q => t σ H fun xs H1 => xs.length ≤ sizeLine ∧ ∀ p ob, ob.dict = none → H1 p = none → Q (.ref p) (upd H1 p (.frz ob (.tup xs)))
theorem frz_ok {P : Program} {w : World} {H : Hp} {h : Heap} {a : Addr} {xs : List V} {us : List Value} {ob : Obj} (hz : xs.length ≤ sizeLine) (r : Vals xs us) (e : h.get? a = some ob) (hc : ob.cls = .type "tuple") (hd : ∃ n, ob.data = .seq us.toArray n) : ObjOk P w H h a (.frz ob (.tup xs)) :=
  ⟨e, hz, us, r, ⟨ob, e, hc, hd⟩⟩
theorem pe_tupF {x1 : Nat} {t : TA} (h : PA X es t) : PE X (.Tuple es x1 pos) (tTupF t) := by
  refine ⟨fun pins s σ H Q I hq => ?_⟩
  refine wpAny_Tuple_spliced (thn (h.run pos pins s σ H _ I hq) fun us s1 ⟨xs, H1, I1, r, z, q⟩ => ⟨by rw [← r.length]; exact z, ?_⟩)
  have hf : H1 s1.heap.objs.size = none := I1.hok.fresh (Nat.le_refl _)
  have I2 := I1.laid (t' := s1.toks) (a := s1.heap.objs.size) (o := .frz (tobj us) (.tup xs)) (h' := s1.heap.push (tobj us)) (fun b u e => Heap.get?_push_of_some _ e) (Nat.le_refl _) (frz_ok z r (Heap.get?_push_size _ rfl) rfl ⟨_, rfl⟩)
  exact ⟨.ref s1.heap.objs.size, _, I2, rfl, q _ _ rfl hf⟩
theorem call_tuple_F : CallR X (.type "tuple") (fun xs H Q => ∃ p ys, xs = [.ref p] ∧ ((SqL X.K H p ys ∧ ∀ l ob, ob.dict = none → H l = none → Q (.ref l) (upd H l (.frz ob (.tup ys)))) ∨ (SqT X.K H p ys ∧ Q (.ref p) H))) := by
  intro pins s σ H xs us Q I r h
  obtain ⟨p, ys, rfl, h⟩ := h
  obtain ⟨u, rfl, rx⟩ := vals1 r
  cases rx
  rcases h with ⟨hq, q⟩ | ⟨hq, q⟩
  · obtain ⟨its, r', pl, hz⟩ := I.list hq
    have hlen := r'.length
    refine call_tuple_list pl.isList (fun h' kp => ?_) (by simp only [List.size_toArray] <;> omega)
    have I1 : Inv X pins σ H { s with heap := h' } := I.kept (t' := s.toks) kp
    have I2 : Inv X pins σ (upd H h'.objs.size (.frz (tobj its) (.tup ys))) { s with heap := h'.push (tobj its) } :=
      I1.laid (t' := s.toks) (fun b o e => Heap.get?_push_of_some _ e) (Nat.le_refl _) (frz_ok hz r' (Heap.get?_push_size _ rfl) rfl ⟨_, rfl⟩)
    exact ⟨.ref h'.objs.size, _, I2, rfl, q _ _ rfl (I1.hok.fresh (Nat.le_refl _))⟩
  · obtain ⟨its, r', pl, hz⟩ := I.tuple hq
    exact call_tuple_same pl ⟨.ref p, H, I, rfl, q⟩
def rCatF (K : PySem.W.Frag) : R2 := fun x y H Q => ∃ a b xs ys, x = .ref a ∧ y = .ref b ∧ SqT K H a xs ∧ SqT K H b ys ∧ xs.length + ys.length ≤ sizeLine ∧
  (xs = [] → Q (.ref b) H) ∧ (xs ≠ [] → ys = [] → Q (.ref a) H) ∧ (xs ≠ [] → ys ≠ [] → ∀ p ob, ob.dict = none → H p = none → Q (.ref p) (upd H p (.frz ob (.tup (xs ++ ys)))))
theorem op_catF : OpR X (binaryOp .Add) (rCatF X.K) := by
  intro pins s σ H x y v u Q I rx ry h
  obtain ⟨a, b, xs, ys, rfl, rfl, ha, hb, hz, q0, q1, q2⟩ := h
  by_cases hx : xs = []
  · subst hx
    cases rx
    cases ry
    obtain ⟨its, r1, p1, _⟩ := I.tuple ha
    obtain ⟨its2, r2, p2, _⟩ := I.tuple hb
    cases r1
    exact cat_tup0 p1 p2 ⟨.ref b, H, I, rfl, q0 rfl⟩
  · cases rx
    cases ry
    obtain ⟨its, r1, p1, _⟩ := I.tuple ha
    obtain ⟨its2, r2, p2, _⟩ := I.tuple hb
    refine HT.cat_tup p1 p2 (fun z => hx (r1.nil_iff.mp z)) (fun z => ⟨.ref a, H, I, rfl, q1 hx (r2.nil_iff.mp z)⟩) (fun z => ?_) (by rw [← r1.length, ← r2.length]; exact hz)
    have I2 := I.laid (t' := s.toks) (a := s.heap.objs.size) (o := .frz (tobj (its ++ its2)) (.tup (xs ++ ys))) (h' := s.heap.push (tobj (its ++ its2))) (fun b ob q => Heap.get?_push_of_some _ q) (Nat.le_refl _)
      (frz_ok (by rw [List.length_append]; exact hz) (r1.append r2) (Heap.get?_push_size _ rfl) rfl ⟨_, rfl⟩)
    exact ⟨.ref s.heap.objs.size, _, I2, rfl, q2 hx (fun w => z (r2.nil_iff.mpr w)) _ _ rfl (I.hok.fresh (Nat.le_refl _))⟩
def rSlF (K : PySem.W.Frag) : V → Option Int → Option Int → Hp → VK → Prop := fun x lo hi H Q => ∃ a xs, x = .ref a ∧ SqT K H a xs ∧
  (HT.sIx xs.length 0 lo = 0 ∧ HT.sIx xs.length xs.length hi = xs.length → Q (.ref a) H) ∧ (¬ (HT.sIx xs.length 0 lo = 0 ∧ HT.sIx xs.length xs.length hi = xs.length) → ∀ p ob, ob.dict = none → H p = none → Q (.ref p) (upd H p (.frz ob (.tup (cutV xs lo hi)))))
theorem sl_tupF : SlR X (rSlF X.K) := by
  intro pins s σ H x v vl vu lo hi sl Q I rx hs pl pu h
  obtain ⟨a, xs, rfl, hx, q1, q2⟩ := h
  cases rx
  obtain ⟨its, r, ht, hz⟩ := I.tuple hx
  have hlen : its.toArray.size = xs.length := by rw [List.size_toArray]; exact r.length.symm
  refine ⟨"tuple", _, PyProof.Rows.slot_tuple_getitem.lookup, ht.typeIs, ?_⟩
  by_cases hw : HT.sIx xs.length 0 lo = 0 ∧ HT.sIx xs.length xs.length hi = xs.length
  · exact getItem_tuple_whole ht hs pl pu (by rw [hlen]; exact hw) ⟨.ref a, H, I, rfl, q1 hw⟩
  · refine HT.getItem_tuple_cut ht hs pl pu (by rw [hlen]; exact hw) ?_ (by rw [hlen]; exact hz)
    rw [hlen]
    have I2 := I.laid (t' := s.toks) (a := s.heap.objs.size) (o := .frz (tobj ((its.drop (HT.sIx xs.length 0 lo)).take (HT.sIx xs.length xs.length hi - HT.sIx xs.length 0 lo))) (.tup (cutV xs lo hi)))
      (h' := s.heap.push (tobj ((its.drop (HT.sIx xs.length 0 lo)).take (HT.sIx xs.length xs.length hi - HT.sIx xs.length 0 lo)))) (fun b ob q => Heap.get?_push_of_some _ q) (Nat.le_refl _)
      (frz_ok (Nat.le_trans (cutV_length xs lo hi) hz) ((r.drop (HT.sIx xs.length 0 lo)).take (HT.sIx xs.length xs.length hi - HT.sIx xs.length 0 lo)) (Heap.get?_push_size _ rfl) rfl ⟨_, rfl⟩)
    exact ⟨.ref s.heap.objs.size, _, I2, rfl, q2 hw _ _ rfl (I.hok.fresh (Nat.le_refl _))⟩
/-- a tuple without a dict of its own: its type's methods are found -/
def tyN (K : PySem.W.Frag) (x : V) (H : Hp) : Prop := ∃ a xs, x = .ref a ∧ ((∃ o : Obj, o.dict = none ∧ H a = some (.frz o (.tup xs))) ∨ ∃ (o : Obj) (its : Array Value) (n : Nat), o.dict = none ∧ K.lookup a = some o ∧ o.cls = .type "tuple" ∧ o.data = .seq its n ∧ its.size ≤ sizeLine ∧ Vals xs its.toList)
theorem tyN_is {pins : List (Addr × Obj)} {σ : L2.St} {H : Hp} {s : Shared} {x : V} {v : Value} (I : Inv X pins σ H s) (r : RelV x v) (ty : tyN X.K x H) :
    s.TypeIs v "tuple" ∧ ∀ a, v = .ref a → ∃ ob, s.heap.get? a = some ob ∧ ob.dict = none := by
  obtain ⟨a, xs, rfl, h⟩ := ty
  cases r
  rcases h with ⟨o, hd, h⟩ | ⟨o, its, n, hd, hk, hc, _⟩
  · obtain ⟨e, hz, us, _, o2, e2, hc, _⟩ := I.hok a _ h
    rw [e] at e2
    cases e2
    exact ⟨⟨o, e, hc⟩, fun b eb => by cases eb; exact ⟨o, e, hd⟩⟩
  · exact ⟨⟨o, I.kIn a o hk, hc⟩, fun b eb => by cases eb; exact ⟨o, I.kIn _ o hk, hd⟩⟩
def tBMN (K : PySem.W.Frag) (r : V → List V → Hp → VK → Prop) (to : TE) (t : TA) : TE := fun σ H Q => to σ H fun x H1 => tyN K x H1 ∧ t σ H1 fun xs H2 => r x xs H2 Q
variable {o e : Expr} {to : TE} {t : TA} {name : Str} {apos cpos : Pos} {id : String} {r : V → List V → Hp → VK → Prop}
theorem pe_bmN (pa : PlainAttrs "tuple") (slot : Slot "tuple" name id) (hty : typeOf (.builtin id) = pure (.type "method_descriptor")) (hm : MtR X id r) (ho : PE X o to) (ha : PA X (e :: es) t)
    (h1 : attributeBase o name X.env (eval o X.env) = eval o X.env)
    (h2 : ((backTo cpos (starEach (e :: es) X.env)).all (fun x => !x.1) && (backToKw cpos (keywordEach [] X.env)).all (fun x => x.1.isSome)
      && decide ((e :: es).length + ([] : List Keyword).length + (if ([] : List Keyword).isEmpty then 0 else 1) < 30)) = true)
    (h3 : (apos.endLine == cpos.line) = true) (h4 : starEach (e :: es) X.env = (false, eval e X.env) :: starEach es X.env) (h5 : (backTo cpos (starEach es X.env)).any (·.1) = false) :
    PE X (.Call (.Attribute o name apos) (e :: es) [] cpos) (tBMN X.K r to t) := by
  refine ⟨fun pins s σ H Q I h => ?_⟩
  refine wpAny_Call_method_late h1 h2 h3 rfl (thn (ho.run pins s σ H _ I h) fun v s1 ⟨x, H1, I1, r1, ty, q1⟩ => ?_)
  obtain ⟨g1, g2⟩ := tyN_is I1 r1 ty
  refine ⟨"tuple", id, pa, slot, hty, g1, g2, ?_⟩
  have hA := ha.run cpos pins s1 σ H1 _ I1 q1
  rw [h4] at hA ⊢
  refine Calls.callWith_builtin (by show (false || (backTo cpos (starEach es X.env)).any (·.1)) = false; rw [h5] <;> rfl) (Calls.evalArgs_plain ?_)
  exact thn hA fun us s2 ⟨vs, H2, I2, r2, q2⟩ => hm pins s2 σ H2 x vs v us Q I2 r1 r2 q2
end
end Bl
set_option Elab.async false
set_option linter.all false
set_option maxRecDepth 100000
set_option maxHeartbeats 4000000
namespace Bl
open PySem PySem.Spec PyProof.Rows L2

/-! ### onwards: more mutable lists (each new), the rest as it was -/
structure Fwd (S : List Addr) (H : Hp) (S' : List Addr) (H' : Hp) : Prop where
  gr : ∃ ps, S' = S ++ ps ∧ ∀ p ∈ ps, H p = none
  ex : ExS S H H'
theorem Fwd.refl (S : List Addr) (H : Hp) : Fwd S H S H := ⟨⟨[], (List.append_nil S).symm, fun _ h => nomatch h⟩, .refl S H⟩
theorem Fwd.of {S : List Addr} {H H' : Hp} (e : Evl.Ex H H') : Fwd S H S H' := ⟨⟨[], (List.append_nil S).symm, fun _ h => nomatch h⟩, .of e⟩
theorem Fwd.sub {S S' : List Addr} {H H' : Hp} (f : Fwd S H S' H') {a : Addr} (h : a ∈ S) : a ∈ S' := by
  obtain ⟨ps, e, _⟩ := f.gr
  rw [e]
  exact List.mem_append_left _ h
theorem Fwd.mem {S S' : List Addr} {H H' : Hp} (f : Fwd S H S' H') {a : Addr} (h : a ∈ S') : a ∈ S ∨ H a = none := by
  obtain ⟨ps, e, q⟩ := f.gr
  rw [e] at h
  rcases List.mem_append.mp h with z | z
  · exact .inl z
  · exact .inr (q a z)
theorem Fwd.exS {S S' : List Addr} {H H' : Hp} (f : Fwd S H S' H') : ExS S' H H' := fun a o n h => f.ex a o (fun z => n (f.sub z)) h
theorem Fwd.get {S S' : List Addr} {H H' : Hp} (f : Fwd S H S' H') {k : Nat} {a : Addr} (h : S[k]? = some a) : S'[k]? = some a := by
  obtain ⟨ps, e, q⟩ := f.gr
  rw [e, List.getElem?_append_left (List.getElem?_eq_some_iff.mp h).1]
  exact h
theorem Fwd.den {K : PySem.W.Frag} {S S' : List Addr} {H H' : Hp} (f : Fwd S H S' H') {g : G} (h : DenG K S H g) : DenG K S' H' g := (h.more (fun a => f.mem)).mono f.exS
theorem Fwd.denR {K : PySem.W.Frag} {S S' : List Addr} {H H' : Hp} (f : Fwd S H S' H') {v : V} {r : R} (h : DenR K S H v r) : DenR K S' H' v r := by
  cases h with
  | d h => exact .d (f.den h)
  | own h => exact .own (f.get h)
theorem Fwd.slots {K : PySem.W.Frag} {S S' : List Addr} {H H' : Hp} {σ : L2.St} {st : Sta} (f : Fwd S H S' H') (h : Slots K S H σ st) : Slots K S' H' σ st :=
  ⟨h.len, fun i r q => let ⟨v, z, y⟩ := h.sl i r q; ⟨v, z, f.denR y⟩⟩
theorem Fwd.trans {K : PySem.W.Frag} {S S1 S2 : List Addr} {H H1 H2 : Hp} {ow : List OB} (f : Fwd S H S1 H1) (o : Owns K S1 H1 ow) (g : Fwd S1 H1 S2 H2) : Fwd S H S2 H2 := by
  refine ⟨?_, fun a u n h => ?_⟩
  · obtain ⟨ps, e, q⟩ := f.gr
    obtain ⟨qs, e2, q2⟩ := g.gr
    refine ⟨ps ++ qs, by rw [e2, e, List.append_assoc], fun p hp => ?_⟩
    rcases List.mem_append.mp hp with z | z
    · exact q p z
    · have n1 := o.nin (q2 p z)
      cases hh : H p with
      | none => rfl
      | some u =>
        have y := f.ex p u (fun w => n1 (f.sub w)) hh
        rw [q2 p z] at y
        cases y
  · have n1 : a ∉ S1 := fun z => by
      rcases f.mem z with y | y
      · exact n y
      · rw [y] at h
        cases h
    exact g.ex a u n1 (f.ex a u n h)

/-! ### the judgements over data -/
def tD (K : PySem.W.Frag) (st : Sta) (ow : List OB) (r : R) (ow' : List OB) : TE := fun σ H Q => ∃ S, Slots K S H σ st ∧ Owns K S H ow ∧ ∀ S' v H', Fwd S H S' H' → Owns K S' H' ow' → DenR K S' H' v r → Q v H'
def tDT (K : PySem.W.Frag) (st : Sta) (ow : List OB) (b : Bool) (ow' : List OB) : TT := fun σ H Q => ∃ S, Slots K S H σ st ∧ Owns K S H ow ∧ ∀ S' H', Fwd S H S' H' → Owns K S' H' ow' → Q b H'
inductive DenRs (K : PySem.W.Frag) (S : List Addr) (H : Hp) : List V → List R → Prop
  | nil : DenRs K S H [] []
  | cons {v : V} {r : R} {vs : List V} {rs : List R} (h : DenR K S H v r) (t : DenRs K S H vs rs) : DenRs K S H (v :: vs) (r :: rs)
theorem Fwd.denRs {K : PySem.W.Frag} {S S' : List Addr} {H H' : Hp} (f : Fwd S H S' H') {vs : List V} {rs : List R} (h : DenRs K S H vs rs) : DenRs K S' H' vs rs := by
  induction h with
  | nil => exact .nil
  | cons h _ ih => exact .cons (f.denR h) ih
theorem DenRs.length {K : PySem.W.Frag} {S : List Addr} {H : Hp} {vs : List V} {rs : List R} (h : DenRs K S H vs rs) : vs.length = rs.length := by
  induction h with
  | nil => rfl
  | cons _ _ ih => exact congrArg (· + 1) ih
def tDA (K : PySem.W.Frag) (st : Sta) (ow : List OB) (rs : List R) (ow' : List OB) : TA := fun σ H Q => ∃ S, Slots K S H σ st ∧ Owns K S H ow ∧ ∀ S' vs H', Fwd S H S' H' → Owns K S' H' ow' → DenRs K S' H' vs rs → Q vs H'
inductive Out where
  | nx (st : Sta) (ow : List OB) | ret (r : R) (ow : List OB) | brk (st : Sta) (ow : List OB) | ct (st : Sta) (ow : List OB)
def Goes (K : PySem.W.Frag) (S : List Addr) (H : Hp) (D : Ends) : Out → Prop
  | .nx st ow => ∀ S' σ' H', Fwd S H S' H' → Slots K S' H' σ' st → Owns K S' H' ow → D.nx σ' H'
  | .brk st ow => ∀ S' σ' H', Fwd S H S' H' → Slots K S' H' σ' st → Owns K S' H' ow → D.bk σ' H'
  | .ct st ow => ∀ S' σ' H', Fwd S H S' H' → Slots K S' H' σ' st → Owns K S' H' ow → D.ct σ' H'
  | .ret r ow => ∀ S' v H', Fwd S H S' H' → Owns K S' H' ow → DenR K S' H' v r → D.rt v H'
def tDS (K : PySem.W.Frag) (st : Sta) (ow : List OB) (o : Out) : TS := fun E σ H => ∃ S, Slots K S H σ st ∧ Owns K S H ow ∧ Goes K S H E o
abbrev PD (X : Cx) (st : Sta) (ow : List OB) (e : Expr) (r : R) (ow' : List OB) : Prop := PE X e (tD X.K st ow r ow')
abbrev PTD (X : Cx) (st : Sta) (ow : List OB) (e : Expr) (b : Bool) (ow' : List OB) : Prop := PT X e (tDT X.K st ow b ow')
abbrev PAD (X : Cx) (st : Sta) (ow : List OB) (es : List Expr) (rs : List R) (ow' : List OB) : Prop := PA X es (tDA X.K st ow rs ow')
abbrev PSD (X : Cx) (st : Sta) (ow : List OB) (s : Stmt) (o : Out) : Prop := PS X s (tDS X.K st ow o)
abbrev PBD (X : Cx) (st : Sta) (ow : List OB) (ss : List Stmt) (o : Out) : Prop := PSs X ss (tDS X.K st ow o)

section
variable {X : Cx} {e a b c : Expr} {st : Sta} {ow ow1 ow2 ow3 : List OB} {r : R} {pos : Pos}
theorem _root_.L2.PE.imp {t t' : TE} (h : PE X e t) (f : ∀ σ H Q, t' σ H Q → t σ H Q) : PE X e t' := ⟨fun pins s σ H Q I z => h.run pins s σ H Q I (f σ H Q z)⟩
theorem _root_.L2.PT.imp {t t' : TT} (h : PT X e t) (f : ∀ σ H Q, t' σ H Q → t σ H Q) : PT X e t' := ⟨fun pins s σ H Q I z => h.run pins s σ H Q I (f σ H Q z)⟩
theorem _root_.L2.PA.imp {es : List Expr} {t t' : TA} (h : PA X es t) (f : ∀ σ H Q, t' σ H Q → t σ H Q) : PA X es t' := ⟨fun cpos pins s σ H Q I z => h.run cpos pins s σ H Q I (f σ H Q z)⟩
theorem _root_.L2.PS.imp {s : Stmt} {t t' : TS} (h : PS X s t) (f : ∀ E σ H, t' E σ H → t E σ H) : PS X s t' := ⟨fun pins s σ H E I z => h.run pins s σ H E I (f E σ H z)⟩
theorem _root_.L2.PSs.imp {s : List Stmt} {t t' : TS} (h : PSs X s t) (f : ∀ E σ H, t' E σ H → t E σ H) : PSs X s t' := ⟨fun pins s σ H E I z => h.run pins s σ H E I (f E σ H z)⟩
/-! ### leaves -/
theorem pd_var (i : Nat) {x : Str} (h : st[i]? = some (some r) := by rfl) (hN : X.N[i]? = some x := by rfl) (hv : Vis X.env.scope x := by first | exact Or.inl rfl | exact Or.inr (Or.inl rfl) | exact Or.inr (Or.inr rfl)) (hd : (x == ("__debug__" : Str)) = false := by decide)
    (hcd : (x == ("__classdict__" : Str)) = false := by decide) : PD X st ow (.Name x pos) r ow :=
  (pv i hN hv hd hcd).imp fun σ H Q ⟨S, sl, o, q⟩ => let ⟨v, h1, h2⟩ := sl.sl i r h; ⟨v, h1, q S v H (.refl S H) o h2⟩
theorem pd_c {v : V} {d : D} (h : PE X e (tC v)) (hd : scV d = some v) : PD X st ow e (.d d) ow :=
  h.imp fun σ H Q ⟨S, sl, o, q⟩ => q S v H (.refl S H) o (.d (by
    cases d <;> first | (cases hd; constructor) | cases hd))
theorem pd_int {i : Int} {j : Nat} : PD X st ow (.Constant (.int i) j pos) (.d (.int i)) ow := pd_c pe_int rfl
theorem pd_bl {i : Bool} {j : Nat} : PD X st ow (.Constant (.bool i) j pos) (.d (.bl i)) ow := pd_c pe_bl rfl
theorem pd_non {j : Nat} : PD X st ow (.Constant .none j pos) (.d .non) ow := pd_c pe_non rfl
theorem pd_str {x : Str} {j : Nat} : PD X st ow (.Constant (.str x) j pos) (.d (.str x)) ow := pd_c pe_str rfl
/-- a module's constant -/
theorem pd_glob {x : Str} {v : V} {d : D} {u : Value} (hg : Gl X x) (hm : X.mg x = some u) (r : RelV v u) (hd : scV d = some v) (h1 : (x == ("__debug__" : Str)) = false := by decide) : PD X st ow (.Name x pos) (.d d) ow := pd_c (pe_glob hg hm r h1) hd

/-! ### operators -/
def RD (K : PySem.W.Frag) (r : R2) (x y z : D) : Prop := ∀ S H ow vx vy (Q : VK), Owns K S H ow → Den K S H vx x → Den K S H vy y → (∀ v H', Evl.Ex H H' → Den K S H' v z → Q v H') → r vx vy H Q
def RU (K : PySem.W.Frag) (r : V → Hp → VK → Prop) (x z : D) : Prop := ∀ S H ow vx (Q : VK), Owns K S H ow → Den K S H vx x → (∀ v H', Evl.Ex H H' → Den K S H' v z → Q v H') → r vx H Q
theorem td_op {rr : R2} {x y z : D} (hr : RD X.K rr x y z) (σ : L2.St) (H : Hp) (Q : VK) (h : tD X.K st ow (.d z) ow2 σ H Q) : tOp rr (tD X.K st ow (.d x) ow1) (tD X.K st ow1 (.d y) ow2) σ H Q := by
  obtain ⟨S, sl, o, q⟩ := h
  refine ⟨S, sl, o, fun S1 v1 H1 f1 o1 d1 => ⟨S1, f1.slots sl, o1, fun S2 v2 H2 f2 o2 d2 => ?_⟩⟩
  cases d1 with
  | d d1 =>
    cases d2 with
    | d d2 => exact hr S2 H2 ow2 v1 v2 Q o2 (f2.den d1) d2 fun v H' e d => q S2 v H' (f1.trans o1 (f2.trans o2 (.of e))) (o2.ex e) (.d d)
theorem td_un {rr : V → Hp → VK → Prop} {x z : D} (hr : RU X.K rr x z) (σ : L2.St) (H : Hp) (Q : VK) (h : tD X.K st ow (.d z) ow1 σ H Q) : tUn rr (tD X.K st ow (.d x) ow1) σ H Q := by
  obtain ⟨S, sl, o, q⟩ := h
  refine ⟨S, sl, o, fun S1 v1 H1 f1 o1 d1 => ?_⟩
  cases d1 with
  | d d1 => exact hr S1 H1 ow1 v1 Q o1 d1 fun v H' e d => q S1 v H' (f1.trans o1 (.of e)) (o1.ex e) (.d d)
theorem pd_op {rr : R2} {op : Operator} {x y z : D} (ho : OpR X (binaryOp op) rr) (hr : RD X.K rr x y z) (ha : PD X st ow a (.d x) ow1) (hb : PD X st ow1 b (.d y) ow2) : PD X st ow (.BinOp a op b pos) (.d z) ow2 := (pe_op ho ha hb).imp (td_op hr)
theorem pd_un {rr : V → Hp → VK → Prop} {op : UnaryOp} {x z : D} (ho : UnR X (unaryOp op) rr) (hr : RU X.K rr x z) (ha : PD X st ow a (.d x) ow1) : PD X st ow (.UnaryOp op a pos) (.d z) ow1 := (pe_un ho ha).imp (td_un hr)
theorem pd_cmp {rr : R2} {op : CmpOp} {x y z : D} (ho : OpR X (compareOp op) rr) (hm : behindInMarks op b = false) (hr : RD X.K rr x y z) (ha : PD X st ow a (.d x) ow1) (hb : PD X st ow1 b (.d y) ow2) : PD X st ow (.Compare a [op] [b] pos) (.d z) ow2 := (pe_cmpR ho ha hb hm).imp (td_op hr)
theorem pd_ix {rr : R2} {x y z : D} (ho : IxR X rr) (hs : PlainIx b) (hr : RD X.K rr x y z) (ha : PD X st ow a (.d x) ow1) (hb : PD X st ow1 b (.d y) ow2) : PD X st ow (.Subscript a b pos) (.d z) ow2 := (pe_ix ho ha hb hs).imp (td_op hr)
theorem den_sc {K : PySem.W.Frag} {S : List Addr} {H : Hp} {v : V} {d : D} (hd : scV d = some v) : Den K S H v d := by
  cases d <;> first | (cases hd; constructor) | cases hd
theorem rd_I0 {K : PySem.W.Frag} {g : Int → Int → V} {i j : Int} {z : D} (h : scV z = some (g i j)) : RD K (rI0 g) (.int i) (.int j) z := fun S H ow vx vy Q o hx hy q => ⟨i, j, hx.of_int, hy.of_int, q _ H (Evl.Ex.refl H) (den_sc h)⟩
theorem rd_I {K : PySem.W.Frag} {C : Int → Int → Prop} {g : Int → Int → V} {i j : Int} {z : D} (hc : C i j) (h : scV z = some (g i j)) : RD K (rI C g) (.int i) (.int j) z := fun S H ow vx vy Q o hx hy q => ⟨i, j, hx.of_int, hy.of_int, hc, q _ H (Evl.Ex.refl H) (den_sc h)⟩
variable {i j : Int}
theorem pd_add (ha : PD X st ow a (.d (.int i)) ow1) (hb : PD X st ow1 b (.d (.int j)) ow2) : PD X st ow (.BinOp a .Add b pos) (.d (.int (i + j))) ow2 := pd_op op_add (rd_I0 rfl) ha hb
theorem pd_sub (ha : PD X st ow a (.d (.int i)) ow1) (hb : PD X st ow1 b (.d (.int j)) ow2) : PD X st ow (.BinOp a .Sub b pos) (.d (.int (i - j))) ow2 := pd_op op_sub (rd_I0 rfl) ha hb
theorem pd_mul (ha : PD X st ow a (.d (.int i)) ow1) (hb : PD X st ow1 b (.d (.int j)) ow2) (hc : CMul i j) : PD X st ow (.BinOp a .Mult b pos) (.d (.int (i * j))) ow2 := pd_op op_mul (rd_I hc rfl) ha hb
theorem pd_mod (ha : PD X st ow a (.d (.int i)) ow1) (hb : PD X st ow1 b (.d (.int j)) ow2) (hc : 0 < j) : PD X st ow (.BinOp a .Mod b pos) (.d (.int (i % j))) ow2 := pd_op op_mod (rd_I hc rfl) ha hb
theorem pd_fdiv (ha : PD X st ow a (.d (.int i)) ow1) (hb : PD X st ow1 b (.d (.int j)) ow2) (hc : CDiv i j) : PD X st ow (.BinOp a .FloorDiv b pos) (.d (.int (i / j))) ow2 := pd_op op_fdiv (rd_I hc rfl) ha hb
theorem pd_pow (ha : PD X st ow a (.d (.int i)) ow1) (hb : PD X st ow1 b (.d (.int j)) ow2) (hc : CPow i j) : PD X st ow (.BinOp a .Pow b pos) (.d (.int (i ^ j.toNat))) ow2 := pd_op op_pow (rd_I hc rfl) ha hb
theorem pd_lt (ha : PD X st ow a (.d (.int i)) ow1) (hb : PD X st ow1 b (.d (.int j)) ow2) : PD X st ow (.Compare a [.Lt] [b] pos) (.d (.bl (decide (i < j)))) ow2 := pd_cmp op_lt (nomark _) (rd_I0 rfl) ha hb
theorem pd_le (ha : PD X st ow a (.d (.int i)) ow1) (hb : PD X st ow1 b (.d (.int j)) ow2) : PD X st ow (.Compare a [.LtE] [b] pos) (.d (.bl (decide (i ≤ j)))) ow2 := pd_cmp op_le (nomark _) (rd_I0 rfl) ha hb
theorem pd_gt (ha : PD X st ow a (.d (.int i)) ow1) (hb : PD X st ow1 b (.d (.int j)) ow2) : PD X st ow (.Compare a [.Gt] [b] pos) (.d (.bl (decide (j < i)))) ow2 := pd_cmp op_gt (nomark _) (rd_I0 rfl) ha hb
theorem pd_ge (ha : PD X st ow a (.d (.int i)) ow1) (hb : PD X st ow1 b (.d (.int j)) ow2) : PD X st ow (.Compare a [.GtE] [b] pos) (.d (.bl (decide (j ≤ i)))) ow2 := pd_cmp op_ge (nomark _) (rd_I0 rfl) ha hb
theorem rd_eq {K : PySem.W.Frag} {x y : D} {v w : V} (hx : scV x = some v) (hy : scV y = some w) (h : scal v w = true) : RD K rEq x y (.bl (decide (v = w))) := fun S H ow vx vy Q o dx dy q => by
  rw [dx.sc hx, dy.sc hy]
  exact ⟨h, q _ H (Evl.Ex.refl H) (.bl _)⟩
theorem rd_ne {K : PySem.W.Frag} {x y : D} {v w : V} (hx : scV x = some v) (hy : scV y = some w) (h : scal v w = true) : RD K rNe x y (.bl (!decide (v = w))) := fun S H ow vx vy Q o dx dy q => by
  rw [dx.sc hx, dy.sc hy]
  exact ⟨h, q _ H (Evl.Ex.refl H) (.bl _)⟩
/-- == of scalars -/
theorem pd_eq {x y : D} {v w : V} (ha : PD X st ow a (.d x) ow1) (hb : PD X st ow1 b (.d y) ow2) (hx : scV x = some v := by rfl) (hy : scV y = some w := by rfl) (h : scal v w = true := by rfl) : PD X st ow (.Compare a [.Eq] [b] pos) (.d (.bl (decide (v = w)))) ow2 := pd_cmp op_eq (nomark _) (rd_eq hx hy h) ha hb
theorem pd_ne {x y : D} {v w : V} (ha : PD X st ow a (.d x) ow1) (hb : PD X st ow1 b (.d y) ow2) (hx : scV x = some v := by rfl) (hy : scV y = some w := by rfl) (h : scal v w = true := by rfl) : PD X st ow (.Compare a [.NotEq] [b] pos) (.d (.bl (!decide (v = w)))) ow2 := pd_cmp op_ne (nomark _) (rd_ne hx hy h) ha hb
/-- is None: asked of any data -/
def nonD : D → Bool
  | .non => true
  | _ => false
theorem nonD_v {K : PySem.W.Frag} {S : List Addr} {H : Hp} {v : V} {x : D} (h : Den K S H v x) : decide (v = .non) = nonD x := by
  cases h <;> first | rfl | exact decide_eq_false (fun z => nomatch z)
theorem pd_isN {x : D} (ha : PD X st ow a (.d x) ow1) (hb : PD X st ow1 b (.d .non) ow2) : PD X st ow (.Compare a [.Is] [b] pos) (.d (.bl (nonD x))) ow2 := pd_cmp op_isN (nomark _) (fun S H ow vx vy Q o dx dy q => by
  cases dy
  refine ⟨rfl, q _ H (Evl.Ex.refl H) ?_⟩
  rw [nonD_v dx]
  exact .bl _) ha hb
theorem pd_notN {x : D} (ha : PD X st ow a (.d x) ow1) (hb : PD X st ow1 b (.d .non) ow2) : PD X st ow (.Compare a [.IsNot] [b] pos) (.d (.bl (!nonD x))) ow2 := pd_cmp op_notN (nomark _) (fun S H ow vx vy Q o dx dy q => by
  cases dy
  refine ⟨rfl, q _ H (Evl.Ex.refl H) ?_⟩
  rw [nonD_v dx]
  exact .bl _) ha hb
theorem pd_neg (ha : PD X st ow a (.d (.int i)) ow1) : PD X st ow (.UnaryOp .USub a pos) (.d (.int (-i))) ow1 := pd_un un_neg (fun S H ow vx Q o dx q => ⟨i, dx.of_int, q _ H (Evl.Ex.refl H) (.int _)⟩) ha

/-! ### tests, and / or / not -/
variable {p q : Bool}
theorem ptd_val (h : PD X st ow e (.d (.bl p)) ow1) (he : ∀ whole, isTrue e X.env whole = (do let v ← whole; standAt e.pos; holding [v] (truthy v)) := by intro _; rfl) : PTD X st ow e p ow1 := (pt_val h he).imp fun σ H Q ⟨S, sl, o, k⟩ => ⟨S, sl, o, fun S1 v H1 f o1 d => by
  cases d with
  | d d => exact ⟨p, d.of_bl, k S1 H1 f o1⟩⟩
theorem ptd_cmp {rr : R2} {op : CmpOp} {x y : D} (ho : OpR X (compareOp op) rr) (hm : behindInMarks op b = false) (hr : RD X.K rr x y (.bl p)) (ha : PD X st ow a (.d x) ow1) (hb : PD X st ow1 b (.d y) ow2) : PTD X st ow (.Compare a [op] [b] pos) p ow2 :=
  (pt_cmpR ho ha hb hm).imp fun σ H Q ⟨S, sl, o, k⟩ => td_op hr σ H (fun x H' => ∃ k, x = .bl k ∧ Q k H') ⟨S, sl, o, fun S1 v H1 f o1 d => by
    cases d with
    | d d => exact ⟨p, d.of_bl, k S1 H1 f o1⟩⟩
theorem ptd_lt (ha : PD X st ow a (.d (.int i)) ow1) (hb : PD X st ow1 b (.d (.int j)) ow2) : PTD X st ow (.Compare a [.Lt] [b] pos) (decide (i < j)) ow2 := ptd_cmp op_lt (nomark _) (rd_I0 rfl) ha hb
theorem ptd_le (ha : PD X st ow a (.d (.int i)) ow1) (hb : PD X st ow1 b (.d (.int j)) ow2) : PTD X st ow (.Compare a [.LtE] [b] pos) (decide (i ≤ j)) ow2 := ptd_cmp op_le (nomark _) (rd_I0 rfl) ha hb
theorem ptd_gt (ha : PD X st ow a (.d (.int i)) ow1) (hb : PD X st ow1 b (.d (.int j)) ow2) : PTD X st ow (.Compare a [.Gt] [b] pos) (decide (j < i)) ow2 := ptd_cmp op_gt (nomark _) (rd_I0 rfl) ha hb
theorem ptd_ge (ha : PD X st ow a (.d (.int i)) ow1) (hb : PD X st ow1 b (.d (.int j)) ow2) : PTD X st ow (.Compare a [.GtE] [b] pos) (decide (j ≤ i)) ow2 := ptd_cmp op_ge (nomark _) (rd_I0 rfl) ha hb
theorem ptd_eq {x y : D} {v w : V} (ha : PD X st ow a (.d x) ow1) (hb : PD X st ow1 b (.d y) ow2) (hx : scV x = some v := by rfl) (hy : scV y = some w := by rfl) (h : scal v w = true := by rfl) : PTD X st ow (.Compare a [.Eq] [b] pos) (decide (v = w)) ow2 := ptd_cmp op_eq (nomark _) (rd_eq hx hy h) ha hb
theorem ptd_ne {x y : D} {v w : V} (ha : PD X st ow a (.d x) ow1) (hb : PD X st ow1 b (.d y) ow2) (hx : scV x = some v := by rfl) (hy : scV y = some w := by rfl) (h : scal v w = true := by rfl) : PTD X st ow (.Compare a [.NotEq] [b] pos) (!decide (v = w)) ow2 := ptd_cmp op_ne (nomark _) (rd_ne hx hy h) ha hb
theorem ptd_isN {x : D} (ha : PD X st ow a (.d x) ow1) (hb : PD X st ow1 b (.d .non) ow2) : PTD X st ow (.Compare a [.Is] [b] pos) (nonD x) ow2 := ptd_cmp op_isN (nomark _) (fun S H ow vx vy Q o dx dy q => by
  cases dy
  refine ⟨rfl, q _ H (Evl.Ex.refl H) ?_⟩
  rw [nonD_v dx]
  exact .bl _) ha hb
theorem ptd_notN {x : D} (ha : PD X st ow a (.d x) ow1) (hb : PD X st ow1 b (.d .non) ow2) : PTD X st ow (.Compare a [.IsNot] [b] pos) (!nonD x) ow2 := ptd_cmp op_notN (nomark _) (fun S H ow vx vy Q o dx dy q => by
  cases dy
  refine ⟨rfl, q _ H (Evl.Ex.refl H) ?_⟩
  rw [nonD_v dx]
  exact .bl _) ha hb
/-- a < b < c: c is asked where the first holds -/
theorem pd_chain {rr rr' : R2} {op op' : CmpOp} {x y z : D} (ho : OpR X (compareOp op) rr) (ho' : OpR X (compareOp op') rr') (hr : RD X.K rr x y (.bl p)) (hr' : RD X.K rr' y z (.bl q)) (ha : PD X st ow a (.d x) ow) (hb : PD X st ow b (.d y) ow) (hc : PD X st ow c (.d z) ow) (hm : lastMarks [op, op'] [b, c] = false := by rfl) :
    PD X st ow (.Compare a [op, op'] [b, c] pos) (.d (.bl (p && q))) ow := by
  refine (pe_chain ho ho' ha hb hc hm).imp fun σ H Q ⟨S, sl, o, k⟩ => ⟨S, sl, o, fun S1 v1 H1 f1 o1 d1 => ⟨S1, f1.slots sl, o1, fun S2 v2 H2 f2 o2 d2 => ?_⟩⟩
  cases d1 with
  | d d1 =>
    cases d2 with
    | d d2 =>
      refine hr S2 H2 ow v1 v2 _ o2 (f2.den d1) d2 fun v H3 e d => ⟨p, d.of_bl, ?_⟩
      have f3 : Fwd S H S2 H3 := f1.trans o1 (f2.trans o2 (.of e))
      cases p with
      | true =>
        refine iteT ⟨S2, f3.slots sl, o2.ex e, fun S4 v4 H4 f4 o4 d4 => ?_⟩
        cases d4 with
        | d d4 => exact hr' S4 H4 ow v2 v4 Q o4 (f4.den (d2.mono (.of e))) d4 fun v H5 e5 d5 => k S4 v H5 (f3.trans (o2.ex e) (f4.trans o4 (.of e5))) (o4.ex e5) (.d d5)
      | false => exact iteF (k S2 _ H3 f3 (o2.ex e) (.d (.bl _)))
theorem ptd_chain {rr rr' : R2} {op op' : CmpOp} {x y z : D} (ho : OpR X (compareOp op) rr) (ho' : OpR X (compareOp op') rr') (hr : RD X.K rr x y (.bl p)) (hr' : RD X.K rr' y z (.bl q)) (ha : PD X st ow a (.d x) ow) (hb : PD X st ow b (.d y) ow) (hc : PD X st ow c (.d z) ow) (hm : lastMarks [op, op'] [b, c] = false := by rfl) :
    PTD X st ow (.Compare a [op, op'] [b, c] pos) (p && q) ow := by
  refine (pt_chain ho ho' ha hb hc hm).imp fun σ H Q ⟨S, sl, o, k⟩ => ⟨S, sl, o, fun S1 v1 H1 f1 o1 d1 => ⟨S1, f1.slots sl, o1, fun S2 v2 H2 f2 o2 d2 => ?_⟩⟩
  cases d1 with
  | d d1 =>
    cases d2 with
    | d d2 =>
      refine hr S2 H2 ow v1 v2 _ o2 (f2.den d1) d2 fun v H3 e d => ⟨p, d.of_bl, ?_⟩
      have f3 : Fwd S H S2 H3 := f1.trans o1 (f2.trans o2 (.of e))
      cases p with
      | true =>
        refine iteT ⟨S2, f3.slots sl, o2.ex e, fun S4 v4 H4 f4 o4 d4 => ?_⟩
        cases d4 with
        | d d4 => exact hr' S4 H4 ow v2 v4 _ o4 (f4.den (d2.mono (.of e))) d4 fun v H5 e5 d5 => ⟨_, d5.of_bl, k S4 H5 (f3.trans (o2.ex e) (f4.trans o4 (.of e5))) (o4.ex e5)⟩
      | false => exact iteF ⟨_, rfl, k S2 H3 f3 (o2.ex e)⟩
abbrev PWD (X : Cx) (st : Sta) (ow : List OB) (e : Expr) (b : Bool) (ow' : List OB) : Prop := PW X e (tDT X.K st ow b ow')
theorem _root_.L2.PW.imp {t t' : TT} (h : PW X e t) (f : ∀ σ H Q, t' σ H Q → t σ H Q) : PW X e t' := ⟨fun wh pins s σ H Q I z => h.run wh pins s σ H Q I (f σ H Q z)⟩
variable {rest : List Expr}
theorem pwd_and1 (ha : PTD X st ow a p ow1) : PWD X st ow (.BoolOp .And [a] pos) p ow1 := pw_and1 ha
theorem pwd_or1 (ha : PTD X st ow a p ow1) : PWD X st ow (.BoolOp .Or [a] pos) p ow1 := pw_or1 ha
theorem never_w {e : Expr} {X : Cx} : PW X e (fun _ _ _ => False) := ⟨fun _ _ _ _ _ _ _ z => z.elim⟩
theorem never_e {e : Expr} {X : Cx} : PE X e (fun _ _ _ => False) := ⟨fun _ _ _ _ _ _ z => z.elim⟩
theorem pwd_and (ha : PTD X st ow a p ow) (hb : p = true → PWD X st ow (.BoolOp .And (b :: rest) pos) q ow) : PWD X st ow (.BoolOp .And (a :: b :: rest) pos) (p && q) ow := by
  cases p with
  | true => exact (pw_and ha (hb rfl)).imp fun σ H Q ⟨S, sl, o, k⟩ => ⟨S, sl, o, fun S1 H1 f o1 => iteT ⟨S1, f.slots sl, o1, fun S2 H2 f2 o2 => k S2 H2 (f.trans o1 f2) o2⟩⟩
  | false => exact (pw_and ha never_w).imp fun σ H Q ⟨S, sl, o, k⟩ => ⟨S, sl, o, fun S1 H1 f o1 => iteF (k S1 H1 f o1)⟩
theorem pwd_or (ha : PTD X st ow a p ow) (hb : p = false → PWD X st ow (.BoolOp .Or (b :: rest) pos) q ow) : PWD X st ow (.BoolOp .Or (a :: b :: rest) pos) (p || q) ow := by
  cases p with
  | false => exact (pw_or ha (hb rfl)).imp fun σ H Q ⟨S, sl, o, k⟩ => ⟨S, sl, o, fun S1 H1 f o1 => iteF ⟨S1, f.slots sl, o1, fun S2 H2 f2 o2 => k S2 H2 (f.trans o1 f2) o2⟩⟩
  | true => exact (pw_or ha never_w).imp fun σ H Q ⟨S, sl, o, k⟩ => ⟨S, sl, o, fun S1 H1 f o1 => iteT (k S1 H1 f o1)⟩
theorem ptd_bool {op : BoolOp} {es : List Expr} (h : PWD X st ow (.BoolOp op es pos) p ow1) : PTD X st ow (.BoolOp op es pos) p ow1 := PW.pt h
theorem pd_one {op : BoolOp} (h : PD X st ow a r ow1) : PD X st ow (.BoolOp op [a] pos) r ow1 := pe_one h
theorem pd_and (ha : PD X st ow a (.d (.bl p)) ow) (hb : p = true → PD X st ow (.BoolOp .And (b :: rest) pos) (.d (.bl q)) ow) : PD X st ow (.BoolOp .And (a :: b :: rest) pos) (.d (.bl (p && q))) ow := by
  cases p with
  | true => exact (pe_and ha (hb rfl)).imp fun σ H Q ⟨S, sl, o, k⟩ => ⟨S, sl, o, fun S1 v H1 f o1 d => by
      cases d with
      | d d => exact ⟨true, d.of_bl, iteT ⟨S1, f.slots sl, o1, fun S2 v2 H2 f2 o2 d2 => k S2 v2 H2 (f.trans o1 f2) o2 d2⟩⟩⟩
  | false => exact (pe_and ha never_e).imp fun σ H Q ⟨S, sl, o, k⟩ => ⟨S, sl, o, fun S1 v H1 f o1 d => by
      cases d with
      | d d => exact ⟨false, d.of_bl, iteF (k S1 _ H1 f o1 (.d (.bl _)))⟩⟩
theorem pd_or (ha : PD X st ow a (.d (.bl p)) ow) (hb : p = false → PD X st ow (.BoolOp .Or (b :: rest) pos) (.d (.bl q)) ow) : PD X st ow (.BoolOp .Or (a :: b :: rest) pos) (.d (.bl (p || q))) ow := by
  cases p with
  | false => exact (pe_or ha (hb rfl)).imp fun σ H Q ⟨S, sl, o, k⟩ => ⟨S, sl, o, fun S1 v H1 f o1 d => by
      cases d with
      | d d => exact ⟨false, d.of_bl, iteF ⟨S1, f.slots sl, o1, fun S2 v2 H2 f2 o2 d2 => k S2 v2 H2 (f.trans o1 f2) o2 d2⟩⟩⟩
  | true => exact (pe_or ha never_e).imp fun σ H Q ⟨S, sl, o, k⟩ => ⟨S, sl, o, fun S1 v H1 f o1 d => by
      cases d with
      | d d => exact ⟨true, d.of_bl, iteT (k S1 _ H1 f o1 (.d (.bl _)))⟩⟩
theorem pd_ifExp {r1 : R} (ht : PTD X st ow c p ow1) (h1 : p = true → PD X st ow1 a r1 ow2) (h2 : p = false → PD X st ow1 b r1 ow2) : PD X st ow (.IfExp c a b pos) r1 ow2 := by
  cases p with
  | true =>
    refine (pe_ifExp (tb := fun _ _ _ => False) ht (h1 rfl) ⟨fun _ _ _ _ _ _ z => z.elim⟩).imp fun σ H Q ⟨S, sl, o, k⟩ => ⟨S, sl, o, fun S1 H1 f o1 => ?_⟩
    exact iteT ⟨S1, f.slots sl, o1, fun S2 v H2 f2 o2 d => k S2 v H2 (f.trans o1 f2) o2 d⟩
  | false =>
    refine (pe_ifExp (ta := fun _ _ _ => False) ht ⟨fun _ _ _ _ _ _ z => z.elim⟩ (h2 rfl)).imp fun σ H Q ⟨S, sl, o, k⟩ => ⟨S, sl, o, fun S1 H1 f o1 => ?_⟩
    exact iteF ⟨S1, f.slots sl, o1, fun S2 v H2 f2 o2 d => k S2 v H2 (f.trans o1 f2) o2 d⟩
theorem ptd_not (h : PTD X st ow a p ow1) : PTD X st ow (.UnaryOp .Not a pos) (!p) ow1 := (pt_not h).imp fun σ H Q ⟨S, sl, o, k⟩ => ⟨S, sl, o, fun S1 H1 f o1 => k S1 H1 f o1⟩
theorem pd_not (h : PD X st ow a (.d (.bl p)) ow1) : PD X st ow (.UnaryOp .Not a pos) (.d (.bl (!p))) ow1 := (pe_not h).imp fun σ H Q ⟨S, sl, o, k⟩ => ⟨S, sl, o, fun S1 v H1 f o1 d => by
  cases d with
  | d d => exact ⟨p, d.of_bl, k S1 _ H1 f o1 (.d (.bl _))⟩⟩
end
end Bl
set_option Elab.async false
set_option linter.all false
set_option maxRecDepth 100000
set_option maxHeartbeats 4000000
namespace Bl
open PySem PySem.Spec PyProof.Rows L2

section
variable {X : Cx} {e a b c o : Expr} {es : List Expr} {st st1 st2 : Sta} {ow ow1 ow2 ow3 : List OB} {r : R} {rs : List R} {d x y z : D} {ds : List D} {pos p : Pos}
/-! ### arguments, displays -/
theorem pad_nil : PAD X st ow [] [] ow := (pa_nil).imp fun σ H Q ⟨S, sl, o, k⟩ => k S [] H (.refl S H) o .nil
theorem pad_cons (ha : PD X st ow e r ow1) (hr : PAD X st ow1 es rs ow2) (hs : starEach (e :: es) X.env = (false, eval e X.env) :: starEach es X.env := by rfl) : PAD X st ow (e :: es) (r :: rs) ow2 :=
  (pa_cons ha hr hs).imp fun σ H Q ⟨S, sl, o, k⟩ => ⟨S, sl, o, fun S1 v H1 f1 o1 d1 => ⟨S1, f1.slots sl, o1, fun S2 vs H2 f2 o2 d2 => k S2 _ H2 (f1.trans o1 f2) o2 (.cons (f2.denR d1) d2)⟩⟩
abbrev PADd (X : Cx) (st : Sta) (ow : List OB) (es : List Expr) (ds : List D) (ow' : List OB) : Prop := PAD X st ow es (ds.map R.d) ow'
theorem padd_nil : PADd X st ow [] [] ow := pad_nil
theorem padd_cons (ha : PD X st ow e (.d d) ow1) (hr : PADd X st ow1 es ds ow2) (hs : starEach (e :: es) X.env = (false, eval e X.env) :: starEach es X.env := by rfl) : PADd X st ow (e :: es) (d :: ds) ow2 := pad_cons ha hr hs
theorem densOf {K : PySem.W.Frag} {S : List Addr} {H : Hp} : ∀ {ds : List D} {vs : List V}, DenRs K S H vs (ds.map R.d) → Dens K S H vs ds
  | [], [], _ => .nil
  | [], _ :: _, h => nomatch h
  | _ :: _, [], h => nomatch h
  | d :: ds, v :: vs, h => by
    have h' : DenRs K S H (v :: vs) (R.d d :: ds.map R.d) := h
    cases h' with
    | cons h t =>
      cases h with
      | d h => exact .cons h (densOf t)
/-- *e at the end of a display -/
theorem padd_star {l : List D} {dd : D} {sp : Pos} (ha : PD X st ow e (.d dd) ow1) (hr : PADd X st ow1 es ds ow2) (hl : tupL dd = some l := by rfl) (hs : starEach (.Starred e sp :: es) X.env = (true, eval e X.env) :: starEach es X.env := by rfl) : PADd X st ow (.Starred e sp :: es) (l ++ ds) ow2 := by
  refine (StX.pa_star ha hr hs).imp fun σ H Q ⟨S, sl, o, k⟩ => ⟨S, sl, o, fun S1 v H1 f1 o1 d1 => ?_⟩
  cases d1 with
  | d d1 =>
    obtain ⟨a, xs, rfl, h1, h2⟩ := d1.of_tup hl
    refine ⟨a, xs, rfl, .inl h1, S1, f1.slots sl, o1, fun S2 vs H2 f2 o2 d2 => k S2 _ H2 (f1.trans o1 f2) o2 ?_⟩
    have d3 := densOf d2
    have d4 : Dens X.K S2 H2 (xs ++ vs) (l ++ ds) := Dens.append (f2.den h2) d3
    have back : ∀ {ds : List D} {vs : List V}, Dens X.K S2 H2 vs ds → DenRs X.K S2 H2 vs (ds.map R.d) := by
      intro ds
      induction ds with
      | nil =>
        intro vs h
        cases h
        exact .nil
      | cons d ds ih =>
        intro vs h
        cases vs with
        | nil => cases h
        | cons v vs => exact .cons (.d h.uncons.1) (ih h.uncons.2)
    exact back d4
theorem pd_tup {k : Nat} (ha : PADd X st ow es ds ow1) (hl : ds.length ≤ 100000 := by first | decide | (simp; done) | assumption) : PD X st ow (.Tuple es k pos) (.d (.tup ds)) ow1 :=
  (pe_tup ha).imp fun σ H Q ⟨S, sl, o, k⟩ => ⟨S, sl, o, fun S1 vs H1 f1 o1 d1 => by
    have d2 := densOf d1
    refine ⟨by rw [d2.length]; exact Evl.sz_of hl, fun p hp => k S1 _ _ (f1.trans o1 (.of (Evl.Ex.new hp))) (o1.ex (Evl.Ex.new hp)) (.d (new_tup o1 hp d2))⟩⟩
theorem pd_tupN {k : Nat} (ha : PADd X st ow es ds ow1) (hl : ds.length ≤ 100000 := by first | decide | (simp; done) | assumption) : PD X st ow (.Tuple es k pos) (.d (.tupN ds)) ow1 :=
  (pe_tupF ha).imp fun σ H Q ⟨S, sl, o, k⟩ => ⟨S, sl, o, fun S1 vs H1 f1 o1 d1 => by
    have d2 := densOf d1
    refine ⟨by rw [d2.length]; exact Evl.sz_of hl, fun p ob hd hp => k S1 _ _ (f1.trans o1 (.of (Evl.Ex.new hp))) (o1.ex (Evl.Ex.new hp)) (.d (new_tupN o1 hp hd d2))⟩⟩
theorem pd_lst (ha : PADd X st ow es ds ow1) (hl : ds.length ≤ 100000 := by first | decide | (simp; done) | assumption) : PD X st ow (.List es pos) (.d (.lst ds)) ow1 :=
  (pe_lst ha).imp fun σ H Q ⟨S, sl, o, k⟩ => ⟨S, sl, o, fun S1 vs H1 f1 o1 d1 => by
    have d2 := densOf d1
    refine ⟨by rw [d2.length]; exact Evl.sz_of hl, fun p hp => k S1 _ _ (f1.trans o1 (.of (Evl.Ex.new hp))) (o1.ex (Evl.Ex.new hp)) (.d (new_lst o1 hp d2))⟩⟩
/-- a new thing at p becomes one of the mutable ones -/
theorem own_newB {K : PySem.W.Frag} {S : List Addr} {H : Hp} {q : Addr} {u : HO} {b : OB} (o : Owns K S H ow) (hp : H q = none) (r : ObAt K (S ++ [q]) (upd H q u) q b) :
    Fwd S H (S ++ [q]) (upd H q u) ∧ Owns K (S ++ [q]) (upd H q u) (ow ++ [b]) ∧ DenR K (S ++ [q]) (upd H q u) (.ref q) (.own ow.length) := by
  have f : Fwd S H (S ++ [q]) (upd H q u) := ⟨⟨[q], rfl, fun p hm => by rw [List.mem_singleton.mp hm]; exact hp⟩, .of (Evl.Ex.new hp)⟩
  have hl := o.len
  refine ⟨f, ⟨by rw [List.length_append, List.length_append, hl] <;> rfl, ?_, fun k l e => ?_⟩, .own ?_⟩
  · rw [List.nodup_append]
    refine ⟨o.nd, by simp, fun a ha b hb => ?_⟩
    rw [List.mem_singleton.mp hb]
    rintro rfl
    exact o.nin hp ha
  · by_cases hk : k < ow.length
    · rw [List.getElem?_append_left hk] at e
      obtain ⟨a, z, y⟩ := o.ob k l e
      exact ⟨a, f.get z, (y.more (fun a => f.mem) (fun k a => f.get)).keep f.exS fun u hu => (Evl.Ex.new hp) _ _ hu⟩
    · by_cases hk2 : k = ow.length
      · subst hk2
        rw [List.getElem?_append_right (Nat.le_refl _), Nat.sub_self] at e
        cases e
        exact ⟨q, by rw [List.getElem?_append_right (by omega), hl, Nat.sub_self] <;> rfl, r⟩
      · rw [List.getElem?_eq_none (by rw [List.length_append]; simp; omega)] at e
        cases e
  · rw [List.getElem?_append_right (by omega), hl, Nat.sub_self] <;> rfl
theorem own_new {K : PySem.W.Frag} {S : List Addr} {H : Hp} {q : Addr} {xs : List V} (o : Owns K S H ow) (hp : H q = none) (r : Dens K S H xs ds) :
    Fwd S H (S ++ [q]) (upd H q (.lst xs)) ∧ Owns K (S ++ [q]) (upd H q (.lst xs)) (ow ++ [.l ds]) ∧ DenR K (S ++ [q]) (upd H q (.lst xs)) (.ref q) (.own ow.length) := by
  have f : Fwd S H (S ++ [q]) (upd H q (.lst xs)) := ⟨⟨[q], rfl, fun p hm => by rw [List.mem_singleton.mp hm]; exact hp⟩, .of (Evl.Ex.new hp)⟩
  exact own_newB o hp (.l upd_same (f.den r))
theorem pd_lstO (ha : PADd X st ow es ds ow1) (hl : ds.length ≤ 100000 := by first | decide | (simp; done) | assumption) : PD X st ow (.List es pos) (.own ow1.length) (ow1 ++ [.l ds]) :=
  (pe_lst ha).imp fun σ H Q ⟨S, sl, o, k⟩ => ⟨S, sl, o, fun S1 vs H1 f1 o1 d1 => by
    have d2 := densOf d1
    refine ⟨by rw [d2.length]; exact Evl.sz_of hl, fun p hp => ?_⟩
    obtain ⟨g1, g2, g3⟩ := own_new o1 hp d2
    exact k _ _ _ (f1.trans o1 g1) g2 g3⟩
/-- what a dict of mutable lists names stays below -/
def KeepG (ow ow1 : List OB) : Prop := (∀ gs, OB.g gs ∈ ow1 → OB.g gs ∈ ow) ∧ ∀ gs, OB.r gs ∈ ow1 → OB.r gs ∈ ow
theorem paired_mem {α β : Type} {F : α → β → Prop} {y : β} : ∀ {l : List α} {m : List β}, Paired F l m → y ∈ m → ∃ x, x ∈ l ∧ F x y
  | _, _, .nil, h => nomatch h
  | _, _, .cons r t, h => by
    rcases List.mem_cons.mp h with rfl | h
    · exact ⟨_, List.mem_cons_self, r⟩
    · obtain ⟨x, hx, q⟩ := paired_mem t h
      exact ⟨x, List.mem_cons_of_mem _ hx, q⟩
theorem paired_map {α β : Type} {F G : α → β → Prop} : ∀ {l : List α} {m : List β}, Paired F l m → (∀ x y, y ∈ m → F x y → G x y) → Paired G l m
  | _, _, .nil, _ => .nil
  | _, _, .cons r t, h => .cons (h _ _ List.mem_cons_self r) (paired_map t fun x y hy => h x y (List.mem_cons_of_mem _ hy))
/-- the last mutable thing is let go -/
theorem drop_lastB {K : PySem.W.Frag} {S S' : List Addr} {H H' : Hp} {b : OB} (f : Fwd S H S' H') (o : Owns K S H ow) (o' : Owns K S' H' (ow1 ++ [b])) (hl : ow.length = ow1.length) (hb : KeepG ow ow1) :
    ∃ q, S' = S ++ [q] ∧ q ∉ S ∧ Fwd S H S H' ∧ Owns K S H' ow1 ∧ (∀ a, a ∈ S → a ∈ S') ∧ ObAt K S' H' q b ∧ S'[ow1.length]? = some q := by
  have hl1 := o.len
  have hl2 := o'.len
  rw [List.length_append] at hl2
  have hl2 : S'.length = ow1.length + 1 := hl2
  obtain ⟨ps, e, hp⟩ := f.gr
  have hps : ps.length = 1 := by
    have z := congrArg List.length e
    rw [List.length_append] at z
    omega
  obtain ⟨q, rfl⟩ : ∃ q, ps = [q] := by
    match ps, hps with
    | [q], _ => exact ⟨q, rfl⟩
  subst e
  have hsub : ∀ a, a ∈ S → a ∈ S ++ [q] := fun a h => List.mem_append_left _ h
  have hnq : q ∉ S := o.nin (hp q (List.mem_singleton.mpr rfl))
  have hlast : (S ++ [q])[ow1.length]? = some q := by
    rw [List.getElem?_append_right (by omega)]
    have hh : ow1.length - S.length = 0 := by omega
    rw [hh]
    rfl
  refine ⟨q, rfl, hnq, ⟨⟨[], (List.append_nil S).symm, fun _ z => nomatch z⟩, f.ex⟩, ⟨by omega, o.nd, fun k l' ek => ?_⟩, hsub, ?_, hlast⟩
  · have hk : k < ow1.length := (List.getElem?_eq_some_iff.mp ek).1
    obtain ⟨a, z, y⟩ := o'.ob k l' (by rw [List.getElem?_append_left hk]; exact ek)
    rw [List.getElem?_append_left (by omega)] at z
    refine ⟨a, z, ?_⟩
    cases y with
    | l h r => exact .l h (r.less hsub)
    | t h r => exact .t h (DenG.less hsub r)
    | @g kvs gs h r =>
      refine .g h (paired_map r fun x y hy hx => ?_)
      obtain ⟨h1, b, h2, h3⟩ := hx
      refine ⟨h1, b, h2, ?_⟩
      obtain ⟨k0, hk0, e0⟩ := List.getElem_of_mem (hb.1 gs (List.mem_of_getElem? ek))
      obtain ⟨a0, z0, y0⟩ := o.ob k0 (.g gs) (by rw [List.getElem?_eq_getElem hk0, e0])
      cases y0 with
      | g h0 r0 =>
        obtain ⟨x0, _, _, b0, _, q3⟩ := paired_mem r0 hy
        have hlt : y.2 < S.length := (List.getElem?_eq_some_iff.mp q3).1
        rwa [List.getElem?_append_left hlt] at h3
    | @r kvs gs h r =>
      refine .r h (paired_map r fun x y hy hx => ?_)
      obtain ⟨h1, b, h2, h3⟩ := hx
      refine ⟨h1, b, h2, ?_⟩
      obtain ⟨k0, hk0, e0⟩ := List.getElem_of_mem (hb.2 gs (List.mem_of_getElem? ek))
      obtain ⟨a0, z0, y0⟩ := o.ob k0 (.r gs) (by rw [List.getElem?_eq_getElem hk0, e0])
      cases y0 with
      | r h0 r0 =>
        obtain ⟨x0, _, _, b0, _, q3⟩ := paired_mem r0 hy
        have hlt : y.2 < S.length := (List.getElem?_eq_some_iff.mp q3).1
        rwa [List.getElem?_append_left hlt] at h3
  · obtain ⟨a, z, y⟩ := o'.ob ow1.length b (by rw [List.getElem?_append_right (Nat.le_refl _), Nat.sub_self] <;> rfl)
    rw [hlast] at z
    cases z
    exact y
theorem owns_drop {K : PySem.W.Frag} {S S' : List Addr} {H H' : Hp} {v : V} {l : List D} (f : Fwd S H S' H') (o : Owns K S H ow) (o' : Owns K S' H' (ow1 ++ [.l l])) (hl : ow.length = ow1.length) (hb : KeepG ow ow1) (h : DenR K S' H' v (.own ow1.length)) :
    Fwd S H S H' ∧ Owns K S H' ow1 ∧ Den K S H' v (.lst l) := by
  obtain ⟨q, e, hnq, f1, o1, hsub, y, hq⟩ := drop_lastB f o o' hl hb
  refine ⟨f1, o1, ?_⟩
  cases h with
  | own h =>
    rw [hq] at h
    cases h
    cases y with
    | l y w => exact .lst (.inl ⟨hnq, .inl y⟩) (w.less hsub)
theorem owns_dropT {K : PySem.W.Frag} {S S' : List Addr} {H H' : Hp} {v : V} {gs : List (List Key × D)} (f : Fwd S H S' H') (o : Owns K S H ow) (o' : Owns K S' H' (ow1 ++ [.t gs])) (hl : ow.length = ow1.length) (hb : KeepG ow ow1) (h : DenR K S' H' v (.own ow1.length)) :
    Fwd S H S H' ∧ Owns K S H' ow1 ∧ Den K S H' v (.dT gs) := by
  obtain ⟨q, e, hnq, f1, o1, hsub, y, hq⟩ := drop_lastB f o o' hl hb
  refine ⟨f1, o1, ?_⟩
  cases h with
  | own h =>
    rw [hq] at h
    cases h
    cases y with
    | t y w => exact .dT hnq y (DenG.less hsub w)
theorem pd_freeze {l : List D} (h : PD X st ow e (.own ow1.length) (ow1 ++ [.l l])) (hl : ow.length = ow1.length := by rfl) (hb : KeepG ow ow1 := by first | exact ⟨fun _ h => h, fun _ h => h⟩ | (refine ⟨?_, ?_⟩ <;> (intro gs h; simp at h ⊢; assumption))) : PD X st ow e (.d (.lst l)) ow1 :=
  PE.imp h fun σ H Q ⟨S, sl, o, k⟩ => ⟨S, sl, o, fun S1 v H1 f1 o1 d1 =>
    let z := owns_drop f1 o o1 hl hb d1
    k S v H1 z.1 z.2.1 (.d z.2.2)⟩

/-! ### calls of built-ins -/
def RC (K : PySem.W.Frag) (rr : List V → Hp → VK → Prop) (ds : List D) (z : D) : Prop := ∀ S H ow vs (Q : VK), Owns K S H ow → Dens K S H vs ds → (∀ v H', Evl.Ex H H' → Den K S H' v z → Q v H') → rr vs H Q
theorem pd_callB {id : String} {xn : Str} {rr : List V → Hp → VK → Prop} (hc : CallR X (.builtin id) rr) (hr : RC X.K rr ds z) (hm : X.mg xn = none) (hv : bootBuiltins xn = some (.builtin id)) (ha : PADd X st ow (e :: es) ds ow1) (hg : Gl X xn := by rfl) (hn : xn ≠ "__name__" := by decide) (hdb : (xn == ("__debug__" : Str)) = false := by decide)
    (he : starEach (e :: es) X.env = (false, eval e X.env) :: starEach es X.env := by rfl) (hpl : (backTo pos (starEach es X.env)).any (·.1) = false := by rfl) : PD X st ow (.Call (.Name xn p) (e :: es) [] pos) (.d z) ow1 :=
  (pe_callB hc hg hm hv ha hn hdb he hpl).imp fun σ H Q ⟨S, sl, o, k⟩ => ⟨S, sl, o, fun S1 vs H1 f1 o1 d1 => hr S1 H1 ow1 vs Q o1 (densOf d1) fun v H' ex dd => k S1 v H' (f1.trans o1 (.of ex)) (o1.ex ex) (.d dd)⟩
theorem pd_callTy {T : String} {xn : Str} {rr : List V → Hp → VK → Prop} (hc : CallR X (.type T) rr) (hr : RC X.K rr ds z) (hm : X.mg xn = none) (hv : bootBuiltins xn = some (.type T)) (ha : PADd X st ow (e :: es) ds ow1) (hg : Gl X xn := by rfl) (hn : xn ≠ "__name__" := by decide) (hdb : (xn == ("__debug__" : Str)) = false := by decide)
    (he : starEach (e :: es) X.env = (false, eval e X.env) :: starEach es X.env := by rfl) (hpl : (backTo pos (starEach es X.env)).any (·.1) = false := by rfl) : PD X st ow (.Call (.Name xn p) (e :: es) [] pos) (.d z) ow1 :=
  (pe_callTy hc hg hm hv ha hn hdb he hpl).imp fun σ H Q ⟨S, sl, o, k⟩ => ⟨S, sl, o, fun S1 vs H1 f1 o1 d1 => hr S1 H1 ow1 vs Q o1 (densOf d1) fun v H' ex dd => k S1 v H' (f1.trans o1 (.of ex)) (o1.ex ex) (.d dd)⟩
theorem dens1 {K : PySem.W.Frag} {S : List Addr} {H : Hp} {vs : List V} (h : Dens K S H vs [d]) : ∃ v, vs = [v] ∧ Den K S H v d := by
  match vs, h with
  | [v], h => exact ⟨v, rfl, h.uncons.1⟩
theorem dens2 {K : PySem.W.Frag} {S : List Addr} {H : Hp} {vs : List V} (h : Dens K S H vs [x, y]) : ∃ v w, vs = [v, w] ∧ Den K S H v x ∧ Den K S H w y := by
  match vs, h with
  | [v, w], h => exact ⟨v, w, rfl, h.uncons.1, h.uncons.2.uncons.1⟩
theorem rc_lenT {K : PySem.W.Frag} {dd : D} (ht : tupL dd = some ds) : RC K (fun xs H Q => ∃ p ys, xs = [.ref p] ∧ (SqL K H p ys ∨ SqT K H p ys) ∧ Q (.int ys.length) H) [dd] (.int (ds.length : Int)) := fun S H ow vs Q o h q => by
  obtain ⟨v, rfl, g⟩ := dens1 h
  obtain ⟨a, xs, rfl, h1, h2⟩ := g.of_tup ht
  refine ⟨a, xs, rfl, .inr h1, q _ H (Evl.Ex.refl H) ?_⟩
  rw [Dens.length h2]
  exact .int _
theorem rc_lenL {K : PySem.W.Frag} : RC K (fun xs H Q => ∃ p ys, xs = [.ref p] ∧ (SqL K H p ys ∨ SqT K H p ys) ∧ Q (.int ys.length) H) [.lst ds] (.int (ds.length : Int)) := fun S H ow vs Q o h q => by
  obtain ⟨v, rfl, g⟩ := dens1 h
  obtain ⟨a, xs, rfl, h1, h2⟩ := g.of_lst
  refine ⟨a, xs, rfl, .inl h1.sq, q _ H (Evl.Ex.refl H) ?_⟩
  rw [h2.length]
  exact .int _
theorem pd_lenT {dd : D} (hm : X.mg "len" = none) (ha : PADd X st ow [e] [dd] ow1) (ht : tupL dd = some ds := by rfl) (hg : Gl X "len" := by rfl) (he : starEach [e] X.env = [(false, eval e X.env)] := by rfl) : PD X st ow (.Call (.Name "len" p) [e] [] pos) (.d (.int (ds.length : Int))) ow1 := pd_callB call_len_seq (rc_lenT ht) hm PySem.boot_len ha hg (by decide) (by decide) he rfl
theorem pd_lenL (hm : X.mg "len" = none) (ha : PADd X st ow [e] [.lst ds] ow1) (hg : Gl X "len" := by rfl) (he : starEach [e] X.env = [(false, eval e X.env)] := by rfl) : PD X st ow (.Call (.Name "len" p) [e] [] pos) (.d (.int (ds.length : Int))) ow1 := pd_callB call_len_seq rc_lenL hm PySem.boot_len ha hg (by decide) (by decide) he rfl
/-- tuple(list), tuple(tuple) -/
theorem pd_tupleL (hm : X.mg "tuple" = none) (ha : PADd X st ow [e] [.lst ds] ow1) (hg : Gl X "tuple" := by rfl) (he : starEach [e] X.env = [(false, eval e X.env)] := by rfl) : PD X st ow (.Call (.Name "tuple" p) [e] [] pos) (.d (.tup ds)) ow1 :=
  pd_callTy call_tuple_of (fun S H ow vs Q o h q => by
    obtain ⟨v, rfl, g⟩ := dens1 h
    obtain ⟨a, xs, rfl, h1, h2⟩ := g.of_lst
    exact ⟨a, xs, rfl, .inl ⟨h1.sq, fun l hl => q _ _ (Evl.Ex.new hl) (new_tup o hl h2)⟩⟩) hm (by decide +kernel) ha hg (by decide) (by decide) he rfl
theorem pd_tupleLN (hm : X.mg "tuple" = none) (ha : PADd X st ow [e] [.lst ds] ow1) (hg : Gl X "tuple" := by rfl) (he : starEach [e] X.env = [(false, eval e X.env)] := by rfl) : PD X st ow (.Call (.Name "tuple" p) [e] [] pos) (.d (.tupN ds)) ow1 :=
  pd_callTy call_tuple_F (fun S H ow vs Q o h q => by
    obtain ⟨v, rfl, g⟩ := dens1 h
    obtain ⟨a, xs, rfl, h1, h2⟩ := g.of_lst
    exact ⟨a, xs, rfl, .inl ⟨h1.sq, fun l ob hd hl => q _ _ (Evl.Ex.new hl) (new_tupN o hl hd h2)⟩⟩) hm (by decide +kernel) ha hg (by decide) (by decide) he rfl
theorem pd_tupleT {dd : D} (hm : X.mg "tuple" = none) (ha : PADd X st ow [e] [dd] ow1) (ht : tupL dd = some ds := by rfl) (hg : Gl X "tuple" := by rfl) (he : starEach [e] X.env = [(false, eval e X.env)] := by rfl) : PD X st ow (.Call (.Name "tuple" p) [e] [] pos) (.d dd) ow1 :=
  pd_callTy call_tuple_of (fun S H ow vs Q o h q => by
    obtain ⟨v, rfl, g⟩ := dens1 h
    obtain ⟨a, xs, rfl, h1, h2⟩ := g.of_tup ht
    exact ⟨a, xs, rfl, .inr ⟨h1, q _ _ (Evl.Ex.refl H) g⟩⟩) hm (by decide +kernel) ha hg (by decide) (by decide) he rfl
theorem rc_listL {K : PySem.W.Frag} : RC K (fun xs H Q => ∃ p ys, xs = [.ref p] ∧ (SqL K H p ys ∨ SqT K H p ys) ∧ ∀ l, H l = none → Q (.ref l) (upd H l (.lst ys))) [.lst ds] (.lst ds) := fun S H ow vs Q o h q => by
    obtain ⟨v, rfl, g⟩ := dens1 h
    obtain ⟨a, xs, rfl, h1, h2⟩ := g.of_lst
    exact ⟨a, xs, rfl, .inl h1.sq, fun l hl => q _ _ (Evl.Ex.new hl) (new_lst o hl h2)⟩
theorem rc_listT {K : PySem.W.Frag} {dd : D} (ht : tupL dd = some ds) : RC K (fun xs H Q => ∃ p ys, xs = [.ref p] ∧ (SqL K H p ys ∨ SqT K H p ys) ∧ ∀ l, H l = none → Q (.ref l) (upd H l (.lst ys))) [dd] (.lst ds) := fun S H ow vs Q o h q => by
    obtain ⟨v, rfl, g⟩ := dens1 h
    obtain ⟨a, xs, rfl, h1, h2⟩ := g.of_tup ht
    exact ⟨a, xs, rfl, .inr h1, fun l hl => q _ _ (Evl.Ex.new hl) (new_lst o hl h2)⟩
theorem pd_listL (hm : X.mg "list" = none) (ha : PADd X st ow [e] [.lst ds] ow1) (hg : Gl X "list" := by rfl) (he : starEach [e] X.env = [(false, eval e X.env)] := by rfl) : PD X st ow (.Call (.Name "list" p) [e] [] pos) (.d (.lst ds)) ow1 := pd_callTy call_list_of rc_listL hm (by decide +kernel) ha hg (by decide) (by decide) he rfl
theorem pd_listT {dd : D} (hm : X.mg "list" = none) (ha : PADd X st ow [e] [dd] ow1) (ht : tupL dd = some ds := by rfl) (hg : Gl X "list" := by rfl) (he : starEach [e] X.env = [(false, eval e X.env)] := by rfl) : PD X st ow (.Call (.Name "list" p) [e] [] pos) (.d (.lst ds)) ow1 := pd_callTy call_list_of (rc_listT ht) hm (by decide +kernel) ha hg (by decide) (by decide) he rfl
/-- list(xs) as a new mutable list -/
theorem pd_listLO (hm : X.mg "list" = none) (ha : PADd X st ow [e] [.lst ds] ow1) (hg : Gl X "list" := by rfl) (he : starEach [e] X.env = [(false, eval e X.env)] := by rfl) : PD X st ow (.Call (.Name "list" p) [e] [] pos) (.own ow1.length) (ow1 ++ [.l ds]) :=
  (pe_callTy call_list_of hg hm (by decide +kernel) ha (by decide) (by decide) he rfl).imp fun σ H Q ⟨S, sl, o, k⟩ => ⟨S, sl, o, fun S1 vs H1 f1 o1 d1 => by
    obtain ⟨v, rfl, g⟩ := dens1 (densOf d1)
    obtain ⟨a, xs, rfl, h1, h2⟩ := g.of_lst
    refine ⟨a, xs, rfl, .inl h1.sq, fun l hl => ?_⟩
    obtain ⟨g1, g2, g3⟩ := own_new o1 hl h2
    exact k _ _ _ (f1.trans o1 g1) g2 g3⟩
/-- the ints in rising order -/
def ins1 (n : Int) : List Int → List Int
  | [] => [n]
  | m :: l => if n ≤ m then n :: m :: l else m :: ins1 n l
def isort : List Int → List Int
  | [] => []
  | n :: l => ins1 n (isort l)
theorem ins1_perm (n : Int) : ∀ l : List Int, (ins1 n l).Perm (n :: l)
  | [] => .refl _
  | m :: l => by
    unfold ins1
    split
    · exact .refl _
    · exact (List.Perm.cons m (ins1_perm n l)).trans (.swap n m l)
theorem isort_perm : ∀ l : List Int, (isort l).Perm l
  | [] => .refl _
  | n :: l => (ins1_perm n (isort l)).trans ((isort_perm l).cons n)
theorem ins1_pw (n : Int) : ∀ l : List Int, l.Pairwise (· ≤ ·) → (ins1 n l).Pairwise (· ≤ ·)
  | [], _ => by simp [ins1]
  | m :: l, h => by
    unfold ins1
    rw [List.pairwise_cons] at h
    split
    · rename_i hm
      rw [List.pairwise_cons, List.pairwise_cons]
      refine ⟨fun k hk => ?_, h⟩
      rcases List.mem_cons.mp hk with z | z
      · rw [z]; exact hm
      · have := h.1 k z; omega
    · rename_i hm
      rw [List.pairwise_cons]
      refine ⟨fun k hk => ?_, ins1_pw n l h.2⟩
      have hk := (ins1_perm n l).mem_iff.mp hk
      rcases List.mem_cons.mp hk with z | z
      · rw [z]; omega
      · exact h.1 k z
theorem isort_pw : ∀ l : List Int, (isort l).Pairwise (· ≤ ·)
  | [] => .nil
  | n :: l => ins1_pw n _ (isort_pw l)
theorem isort_eq {l m : List Int} (hp : m.Perm l) (hs : m.Pairwise (· ≤ ·)) : m = isort l :=
  List.Perm.eq_of_pairwise (le := (· ≤ ·)) (fun a b _ _ h1 h2 => by omega) hs (isort_pw l) (hp.trans (isort_perm l).symm)
theorem pd_sorted {ns : List Int} (hm : X.mg "sorted" = none) (ha : PADd X st ow [e] [.lst (ns.map D.int)] ow1) (hl : ns.length < 64) (hg : Gl X "sorted" := by rfl) (he : starEach [e] X.env = [(false, eval e X.env)] := by rfl) : PD X st ow (.Call (.Name "sorted" p) [e] [] pos) (.d (.lst ((isort ns).map D.int))) ow1 :=
  pd_callB cr_sorted (fun S H ow vs Q o h q => by
    obtain ⟨v, rfl, g⟩ := dens1 h
    obtain ⟨a, xs, rfl, h1, h2⟩ := g.of_lst
    have e1 := h2.ints
    subst e1
    refine ⟨a, ns, rfl, h1.sq, hl, fun ns' l hp hs hn => ?_⟩
    rw [isort_eq hp hs]
    exact q _ _ (Evl.Ex.new hn) (new_lst o hn (Dens.of_ints _))) hm (by decide +kernel) ha hg (by decide) (by decide) he rfl
theorem pd_all {bs : List Bool} (hc : X.calm = true) (hm : X.mg "all" = none) (ha : PADd X st ow [e] [.lst (bs.map D.bl)] ow1) (hg : Gl X "all" := by rfl) (he : starEach [e] X.env = [(false, eval e X.env)] := by rfl) : PD X st ow (.Call (.Name "all" p) [e] [] pos) (.d (.bl (bs.all id))) ow1 :=
  pd_callB (cr_all hc) (fun S H ow vs Q o h q => by
    obtain ⟨v, rfl, g⟩ := dens1 h
    obtain ⟨a, xs, rfl, h1, h2⟩ := g.of_lst
    have e1 := h2.bls
    subst e1
    exact ⟨a, bs, rfl, h1.sq, q _ _ (Evl.Ex.refl H) (.bl _)⟩) hm (by decide +kernel) ha hg (by decide) (by decide) he rfl
theorem pd_min2 {i j : Int} (hc : X.calm = true) (hm : X.mg "min" = none) (ha : PADd X st ow [a, b] [.int i, .int j] ow1) (hg : Gl X "min" := by rfl) (he : starEach [a, b] X.env = (false, eval a X.env) :: starEach [b] X.env := by rfl) (hpl : (backTo pos (starEach [b] X.env)).any (·.1) = false := by rfl) : PD X st ow (.Call (.Name "min" p) [a, b] [] pos) (.d (.int (if j < i then j else i))) ow1 :=
  pd_callB (call_min2 hc) (fun S H ow vs Q o h q => by
    obtain ⟨v, w, rfl, g, g'⟩ := dens2 h
    exact ⟨i, j, by rw [g.of_int, g'.of_int], q _ _ (Evl.Ex.refl H) (.int _)⟩) hm (by decide +kernel) ha hg (by decide) (by decide) he hpl
theorem pd_int1 {i : Int} (hm : X.mg "int" = none) (ha : PADd X st ow [e] [.int i] ow1) (hg : Gl X "int" := by rfl) (he : starEach [e] X.env = [(false, eval e X.env)] := by rfl) : PD X st ow (.Call (.Name "int" p) [e] [] pos) (.d (.int i)) ow1 :=
  pd_callTy call_int1 (fun S H ow vs Q o h q => by
    obtain ⟨v, rfl, g⟩ := dens1 h
    exact .inl ⟨i, by rw [g.of_int], q _ _ (Evl.Ex.refl H) (.int _)⟩) hm (by decide +kernel) ha hg (by decide) (by decide) he rfl

/-! ### subscripts, slices -/
theorem den_at {K : PySem.W.Frag} {S : List Addr} {H : Hp} {xs : List V} {i : Int} (h : Dens K S H xs ds) (ha : atI ds i = some d) : ∃ v, atI xs i = some v ∧ Den K S H v d := by
  have hl := h.length
  unfold atI at ha ⊢
  rw [hl]
  cases hx : ixN ds.length i with
  | none => rw [hx] at ha; cases ha
  | some j =>
    rw [hx] at ha
    have ha : ds[j]? = some d := ha
    obtain ⟨v, h1, h2⟩ := h.get ha
    exact ⟨v, h1, h2⟩
theorem rd_ixT {K : PySem.W.Frag} {i : Int} {dd : D} (ht : tupL dd = some ds) (ha : atI ds i = some d) : RD K (rIxT K) dd (.int i) d := fun S H ow vx vy Q o hx hy q => by
  obtain ⟨a, xs, rfl, h1, h2⟩ := hx.of_tup ht
  obtain ⟨v, h3, h4⟩ := den_at h2 ha
  exact ⟨a, xs, i, v, rfl, hy.of_int, h1, h3, q v H (Evl.Ex.refl H) h4⟩
theorem rd_ixL {K : PySem.W.Frag} {i : Int} (ha : atI ds i = some d) : RD K (rIxL K) (.lst ds) (.int i) d := fun S H ow vx vy Q o hx hy q => by
  obtain ⟨a, xs, rfl, h1, h2⟩ := hx.of_lst
  obtain ⟨v, h3, h4⟩ := den_at h2 ha
  exact ⟨a, xs, i, v, rfl, hy.of_int, h1.sq, h3, q v H (Evl.Ex.refl H) h4⟩
theorem pd_ixT {i : Int} {dd : D} (ha : PD X st ow a (.d dd) ow1) (hb : PD X st ow1 b (.d (.int i)) ow2) (hi : atI ds i = some d) (ht : tupL dd = some ds := by rfl) (hs : PlainIx b := by exact fun _ _ => rfl) : PD X st ow (.Subscript a b pos) (.d d) ow2 := pd_ix ix_tup hs (rd_ixT ht hi) ha hb
theorem pd_ixL {i : Int} (ha : PD X st ow a (.d (.lst ds)) ow1) (hb : PD X st ow1 b (.d (.int i)) ow2) (hi : atI ds i = some d) (hs : PlainIx b := by exact fun _ _ => rfl) : PD X st ow (.Subscript a b pos) (.d d) ow2 := pd_ix ix_list hs (rd_ixL hi) ha hb
def tDO (K : PySem.W.Frag) (st : Sta) (ow : List OB) (w : Option Int) : TO := fun σ H Q => ∃ S, Slots K S H σ st ∧ Owns K S H ow ∧ ∀ S' H', Fwd S H S' H' → Owns K S' H' ow → Q w H'
abbrev POD (X : Cx) (st : Sta) (ow : List OB) (e : Option Expr) (w : Option Int) : Prop := PO X e (tDO X.K st ow w)
theorem _root_.L2.PO.imp {e : Option Expr} {t t' : TO} (h : PO X e t) (f : ∀ σ H Q, t' σ H Q → t σ H Q) : PO X e t' := ⟨fun pins s σ H Q I z => h.run pins s σ H Q I (f σ H Q z)⟩
theorem pod_none : POD X st ow none none := (po_none).imp fun σ H Q ⟨S, sl, o, k⟩ => k S H (.refl S H) o
theorem pod_some {i : Int} (h : PD X st ow e (.d (.int i)) ow) : POD X st ow (some e) (some i) := (po_some h).imp fun σ H Q ⟨S, sl, o, k⟩ => ⟨S, sl, o, fun S1 v H1 f1 o1 d1 => by
  cases d1 with
  | d d1 => exact ⟨i, d1.of_int, k S1 H1 f1 o1⟩⟩
def cutD (ds : List D) (lo hi : Option Int) : List D := (ds.drop (HT.sIx ds.length 0 lo)).take (HT.sIx ds.length ds.length hi - HT.sIx ds.length 0 lo)
theorem dens_cut {K : PySem.W.Frag} {S : List Addr} {H : Hp} {xs : List V} {lo hi : Option Int} (h : Dens K S H xs ds) : Dens K S H (cutV xs lo hi) (cutD ds lo hi) := by
  unfold cutV cutD
  rw [h.length]
  exact (h.drop _).take _
end
end Bl
set_option Elab.async false
set_option linter.all false
set_option maxRecDepth 100000
set_option maxHeartbeats 4000000
namespace Bl
open PySem PySem.Spec PyProof.Rows L2

section
variable {X : Cx} {e a b c o : Expr} {es : List Expr} {st st1 st2 : Sta} {ow ow1 ow2 ow3 : List OB} {r : R} {rs : List R} {d x y z : D} {ds : List D} {pos p p2 : Pos} {lo hi : Option Expr} {ilo ihi : Option Int}
theorem pd_slL (he : PD X st ow e (.d (.lst ds)) ow1) (h1 : POD X st ow1 lo ilo) (h2 : POD X st ow1 hi ihi) : PD X st ow (.Subscript e (.Slice lo hi none p2) pos) (.d (.lst (cutD ds ilo ihi))) ow1 :=
  (pe_slice sl_list he h1 h2).imp fun σ H Q ⟨S, sl, o, k⟩ => ⟨S, sl, o, fun S1 v H1 f1 o1 d1 => ⟨S1, f1.slots sl, o1, fun S2 H2 f2 o2 => ⟨S2, (f1.trans o1 f2).slots sl, o2, fun S3 H3 f3 o3 => by
    cases d1 with
    | d d1 =>
      obtain ⟨a, xs, rfl, h1, h2⟩ := d1.of_lst
      have f23 := f2.trans o2 f3
      have l3 : Den X.K S3 H3 (.ref a) (.lst ds) := f23.den d1
      obtain ⟨a', xs', e', h1', h2'⟩ := l3.of_lst
      cases e'
      exact ⟨a, xs', rfl, h1'.sq, fun p hp => k S3 _ _ (f1.trans o1 (f23.trans o3 (.of (Evl.Ex.new hp)))) (o3.ex (Evl.Ex.new hp)) (.d (new_lst o3 hp (dens_cut h2')))⟩⟩⟩⟩
/-- any slice of a tuple -/
theorem pd_slT (he : PD X st ow e (.d (.tup ds)) ow1) (h1 : POD X st ow1 lo ilo) (h2 : POD X st ow1 hi ihi) : PD X st ow (.Subscript e (.Slice lo hi none p2) pos) (.d (.tup (cutD ds ilo ihi))) ow1 :=
  (pe_slice sl_tupA he h1 h2).imp fun σ H Q ⟨S, sl, o, k⟩ => ⟨S, sl, o, fun S1 v H1 f1 o1 d1 => ⟨S1, f1.slots sl, o1, fun S2 H2 f2 o2 => ⟨S2, (f1.trans o1 f2).slots sl, o2, fun S3 H3 f3 o3 => by
    cases d1 with
    | d d1 =>
      obtain ⟨a, xs, rfl, h1, h2⟩ := d1.of_tup rfl
      have f23 := f2.trans o2 f3
      have l3 : Den X.K S3 H3 (.ref a) (.tup ds) := f23.den d1
      obtain ⟨a', xs', e', h1', h2'⟩ := l3.of_tup rfl
      cases e'
      have hl := Dens.length h2'
      refine ⟨a, xs', rfl, h1', fun hw => ?_, fun _ p hp => k S3 _ _ (f1.trans o1 (f23.trans o3 (.of (Evl.Ex.new hp)))) (o3.ex (Evl.Ex.new hp)) (.d (new_tup o3 hp (dens_cut h2')))⟩
      have hcut : cutD ds ilo ihi = ds := by
        unfold cutD
        rw [hl] at hw
        rw [hw.1, hw.2, List.drop_zero, Nat.sub_zero, List.take_length]
      rw [hcut] at k
      exact k S3 _ _ (f1.trans o1 f23) o3 (.d l3)⟩⟩⟩
theorem pd_slN (he : PD X st ow e (.d (.tupN ds)) ow1) (h1 : POD X st ow1 lo ilo) (h2 : POD X st ow1 hi ihi) : PD X st ow (.Subscript e (.Slice lo hi none p2) pos) (.d (.tupN (cutD ds ilo ihi))) ow1 :=
  (pe_slice sl_tupF he h1 h2).imp fun σ H Q ⟨S, sl, o, k⟩ => ⟨S, sl, o, fun S1 v H1 f1 o1 d1 => ⟨S1, f1.slots sl, o1, fun S2 H2 f2 o2 => ⟨S2, (f1.trans o1 f2).slots sl, o2, fun S3 H3 f3 o3 => by
    cases d1 with
    | d d1 =>
      obtain ⟨a, xs, rfl, h1, h2⟩ := d1.of_tup rfl
      have f23 := f2.trans o2 f3
      have l3 : Den X.K S3 H3 (.ref a) (.tupN ds) := f23.den d1
      obtain ⟨a', xs', e', h1', h2'⟩ := l3.of_tup rfl
      cases e'
      have hl := Dens.length h2'
      refine ⟨a, xs', rfl, h1', fun hw => ?_, fun _ p ob hd hp => k S3 _ _ (f1.trans o1 (f23.trans o3 (.of (Evl.Ex.new hp)))) (o3.ex (Evl.Ex.new hp)) (.d (new_tupN o3 hp hd (dens_cut h2')))⟩
      have hcut : cutD ds ilo ihi = ds := by
        unfold cutD
        rw [hl] at hw
        rw [hw.1, hw.2, List.drop_zero, Nat.sub_zero, List.take_length]
      rw [hcut] at k
      exact k S3 _ _ (f1.trans o1 f23) o3 (.d l3)⟩⟩⟩

/-! ### own defs: what they are worth -/
abbrev GG := List R → List OB → R → List OB → Prop
def spF (K : PySem.W.Frag) (g : GG) : Sp := fun vs H Q _ => ∃ S rs ow r ow', DenRs K S H vs rs ∧ Owns K S H ow ∧ g rs ow r ow' ∧ ∀ S' v H', Fwd S H S' H' → Owns K S' H' ow' → DenR K S' H' v r → Q v H'
def startD (N : List Str) (rs : List R) : Sta := rs.map some ++ List.replicate (N.length - rs.length) none
theorem start_slots {K : PySem.W.Frag} {S : List Addr} {H : Hp} {N : List Str} {vs : List V} (h : DenRs K S H vs rs) : Slots K S H (L2.start N vs) (startD N rs) := by
  have hl := h.length
  refine ⟨by unfold L2.start startD; rw [List.length_append, List.length_append, List.length_map, List.length_map, List.length_replicate, List.length_replicate, hl], fun i r e => ?_⟩
  unfold startD at e
  unfold L2.start
  by_cases hi : i < rs.length
  · rw [List.getElem?_append_left (by rw [List.length_map]; exact hi)] at e
    have key : ∀ {vs : List V} {rs : List R} {i : Nat}, DenRs K S H vs rs → (rs.map some)[i]? = some (some r) → ∃ v, (vs.map some)[i]? = some (some v) ∧ DenR K S H v r := by
      intro vs rs i h
      induction h generalizing i with
      | nil => intro e; simp at e
      | cons h t ih =>
        intro e
        cases i with
        | zero =>
          have e' := Option.some.inj (Option.some.inj e)
          subst e'
          exact ⟨_, rfl, h⟩
        | succ i => exact ih (i := i) e
    obtain ⟨v, h1, h2⟩ := key h e
    exact ⟨v, by rw [List.getElem?_append_left (by rw [List.length_map, hl]; exact hi)]; exact h1, h2⟩
  · rw [List.getElem?_append_right (by rw [List.length_map]; omega), List.getElem?_replicate] at e
    split at e <;> cases e
theorem okF {P : Program} {w : World} {K : PySem.W.Frag} {mg : Str → Option Value} {base : Heap} {xn qual : Str} {sst : Stmt} {f : Addr} {fd : FuncData} {N ps : List Str} {k : Nat} {g : GG} (F : Fun K xn qual sst f fd) (SC : FnScope N ps (defScope sst)) (len : ∀ rs ow r ow', g rs ow r ow' → rs.length = ps.length)
    (hbody : ∀ (cdv : Value) (A : Around) (outer : List Env) (s : Shared) (H : Hp) (E : XK), Room k (A.deeper (envOfC qual (defScope sst) s.heap.objs.size f cdv)) → ∀ rs ow r ow', g rs ow r ow' →
      PBD (cxOf CX0 P w K mg base N qual (defScope sst) f cdv A outer s H E).nox (startD N rs) ow (defBody sst) (.ret r ow')) : FnOk P w K mg base CX0 (k + 1) f fd ps (spF K g) := by
  refine F.ok SC (fun vs H Q E h => ?_) (fun cdv A outer s H vs Q E hr h => ?_)
  · obtain ⟨S, rs, ow, r, ow', h1, h2, h3, _⟩ := h
    rw [h1.length, len _ _ _ _ h3]
  · obtain ⟨S, rs, ow, r, ow', h1, h2, h3, q⟩ := h
    exact ⟨_, hbody cdv A outer s H E hr rs ow r ow' h3, S, start_slots h1, h2, fun S' v H' f o d => q S' v H' f o d⟩
theorem appnil {vs : List V} : vs ++ [] = vs := List.append_nil vs
variable {k : Nat} {f : Addr} {fd : FuncData} {ps : List Str} {g : GG} {xn : Str}
theorem pd_call (F : FnOk X.prog X.w X.K X.mg X.base CX0 k f fd ps (spF X.K g)) (hr : Room k X.A) (hm : X.mg xn = some (.ref f)) (hk : PySem.W.keepIn X.K (.ref f) = true) (hb : Binds X.K fd ps []) (ha : PAD X st ow (e :: es) rs ow1) (hgg : g rs ow1 r ow2) (hg : Gl X xn := by rfl) (hdb : (xn == ("__debug__" : Str)) = false := by decide)
    (he : starEach (e :: es) X.env = (false, eval e X.env) :: starEach es X.env := by rfl) (hpl : (backTo pos (starEach es X.env)).any (·.1) = false := by rfl) : PD X st ow (.Call (.Name xn p) (e :: es) [] pos) r ow2 :=
  (pe_call F hr hg hm hk hb .nil pass0 ha hdb he hpl).imp fun σ H Q ⟨S, sl, o, q⟩ => ⟨S, sl, o, fun S1 vs H1 f1 o1 d1 => by
    show spF X.K g (vs ++ []) H1 Q E0
    rw [appnil]
    exact ⟨S1, rs, ow1, r, ow2, d1, o1, hgg, fun S2 v H2 f2 o2 d2 => q S2 v H2 (f1.trans o1 f2) o2 d2⟩⟩
/-! ### objects -/
theorem flds_look {K : PySem.W.Frag} {S : List Addr} {H : Hp} : ∀ {fs : List (Str × V)} {gs : List (Str × D)} {f : Str}, Flds K S H fs gs → (∀ d, gs.lookup f = some d → ∃ v, fs.lookup f = some v ∧ Den K S H v d) ∧ (gs.lookup f = none → fs.lookup f = none)
  | [], [], f, _ => ⟨fun d e => by simp at e, fun _ => rfl⟩
  | [], _ :: _, _, h => nomatch h
  | _ :: _, [], _, h => nomatch h
  | (f1, v1) :: fs, (f2, d2) :: gs, f, h => by
    cases h with
    | fcons h1 r =>
      have ih := flds_look (f := f) r
      rw [List.lookup_cons, List.lookup_cons]
      cases hb : (f == f1) with
      | true => exact ⟨fun d e => ⟨v1, rfl, (Option.some.inj e) ▸ h1⟩, fun e => nomatch e⟩
      | false => exact ih
theorem den_ins {K : PySem.W.Frag} {S : List Addr} {H : Hp} {v : V} {C : Addr} {gs : List (Str × D)} (h : Den K S H v (.ins C gs)) : ∃ a dx fs, v = .ref a ∧ a ∉ S ∧ H a = some (.ins C dx fs) ∧ Flds K S H fs gs := by
  cases h with
  | ins n h r => exact ⟨_, _, _, rfl, n, h, r⟩
theorem pd_fld {C : Addr} {gs : List (Str × D)} {fn : Str} (he : PD X st ow e (.d (.ins C gs)) ow1) (c : Cls X.K C) (n : NoAttr X.K C fn) (hl : gs.lookup fn = some d) (hb : attributeBase e fn X.env (eval e X.env) = eval e X.env := by rfl) : PD X st ow (.Attribute e fn pos) (.d d) ow1 :=
  (pe_fld he hb).imp fun σ H Q ⟨S, sl, o, q⟩ => ⟨S, sl, o, fun S1 v H1 f1 o1 d1 => by
    cases d1 with
    | d d1 =>
      obtain ⟨a, dx, fs, rfl, _, h1, h2⟩ := den_ins d1
      obtain ⟨v, h3, h4⟩ := (flds_look h2).1 d hl
      exact ⟨a, C, dx, fs, v, rfl, h1, c, n, h3, q S1 v H1 f1 o1 (.d h4)⟩⟩
theorem pd_prop {C pa : Addr} {gs : List (Str × D)} {fn : Str} (he : PD X st ow e (.d (.ins C gs)) ow1) (c : Cls X.K C) (hp : PropOf X.K C fn pa f) (F : FnOk X.prog X.w X.K X.mg X.base CX0 k f fd ps (spF X.K g)) (hr : Room (k + 1) X.A) (hb : Binds X.K fd ps []) (hgg : g [.d (.ins C gs)] ow1 r ow2)
    (hab : attributeBase e fn X.env (eval e X.env) = eval e X.env := by rfl) : PD X st ow (.Attribute e fn pos) r ow2 :=
  (pe_prop he c hp F hr hb .nil pass0 hab).imp fun σ H Q ⟨S, sl, o, q⟩ => ⟨S, sl, o, fun S1 v H1 f1 o1 d1 => by
    cases d1 with
    | d d1 =>
      obtain ⟨a, dx, fs, rfl, _, h1, h2⟩ := den_ins d1
      exact ⟨a, dx, fs, rfl, h1, S1, [.d (.ins C gs)], ow1, r, ow2, .cons (.d d1) .nil, o1, hgg, fun S2 v H2 f2 o2 d2 => q S2 v H2 (f1.trans o1 f2) o2 d2⟩⟩
theorem pd_meth {pl : Sem Bool} {C : Addr} {gs : List (Str × D)} {mn : Str} {apos : Pos} (ho : PD X st ow o (.d (.ins C gs)) ow1) (c : Cls X.K C) (hm : Meth X.K C mn f) (F : FnOk X.prog X.w X.K X.mg X.base CX0 k f fd ps (spF X.K g)) (hr : Room k X.A) (hb : Binds X.K fd ps []) (ha : PAD X st ow1 (e :: es) rs ow2) (hl : gs.lookup mn = none) (hgg : g (.d (.ins C gs) :: rs) ow2 r ow3)
    (hst : starEach (e :: es) X.env = (false, eval e X.env) :: starEach es X.env := by rfl) (hpl : (backTo pos (starEach es X.env)).any (·.1) = false := by rfl)
    (ht : eval (.Call (.Attribute o mn apos) (e :: es) [] pos) X.env = (do
      let ov ← eval o X.env
      standAt apos.atName
      let (f, first) ← holding [ov] (getMethod ov mn pl)
      callWith pos f first (backTo pos (starEach (e :: es) X.env)) (backToKw pos (keywordEach [] X.env))) := by rfl) :
    PD X st ow (.Call (.Attribute o mn apos) (e :: es) [] pos) r ow3 :=
  (pe_meth ho c hm F hr hb .nil pass0 ha hst hpl ht).imp fun σ H Q ⟨S, sl, o, q⟩ => ⟨S, sl, o, fun S1 v H1 f1 o1 d1 => by
    cases d1 with
    | d d1 =>
      obtain ⟨a, dx, fs, rfl, _, h1, h2⟩ := den_ins d1
      refine ⟨a, dx, fs, rfl, h1, (flds_look h2).2 hl, S1, f1.slots sl, o1, fun S2 vs H2 f2 o2 d2 => ?_⟩
      show spF X.K g (V.ref a :: (vs ++ [])) H2 Q E0
      rw [appnil]
      exact ⟨S2, _, ow2, r, ow3, .cons (.d (f2.den d1)) d2, o2, hgg, fun S3 v H3 f3 o3 d3 => q S3 v H3 (f1.trans o1 (f2.trans o2 f3)) o3 d3⟩⟩

/-! ### statements -/
variable {ss tb eb rest : List Stmt} {s : Stmt} {out : Out} {bl : Bool}
theorem pbd_nil : PBD X st ow [] (.nx st ow) := (pss_nil).imp fun E σ H ⟨S, sl, o, k⟩ => k S σ H (.refl S H) sl o
theorem goes_seq {K : PySem.W.Frag} {S : List Addr} {H : Hp} {E : Ends} (k : Goes K S H E out) {S1 : List Addr} {H1 : Hp} (f : Fwd S H S1 H1) (o : Owns K S1 H1 ow) : Goes K S1 H1 E out := by
  cases out with
  | nx st ow => exact fun S' σ' H' f' => k S' σ' H' (f.trans o f')
  | brk st ow => exact fun S' σ' H' f' => k S' σ' H' (f.trans o f')
  | ct st ow => exact fun S' σ' H' f' => k S' σ' H' (f.trans o f')
  | ret r ow => exact fun S' v H' f' => k S' v H' (f.trans o f')
theorem pbd_cons (h1 : PSD X st ow s (.nx st1 ow1)) (h2 : PBD X st1 ow1 rest out) : PBD X st ow (s :: rest) out :=
  (pss_cons h1 h2).imp fun E σ H ⟨S, sl, o, k⟩ => ⟨S, sl, o, fun S1 σ1 H1 f1 sl1 o1 => ⟨S1, sl1, o1, goes_seq k f1 o1⟩⟩
/-- a statement that does not come to its end -/
def Leaves : Out → Prop
  | .nx _ _ => False
  | _ => True
theorem goes_leave {K : PySem.W.Frag} {S : List Addr} {H : Hp} {E E' : Ends} (h : Leaves out) (k : Goes K S H E out) (e1 : E'.rt = E.rt) (e2 : E'.bk = E.bk) (e3 : E'.ct = E.ct) : Goes K S H E' out := by
  cases out with
  | nx st ow => exact h.elim
  | brk st ow => intro S' σ' H' f' sl o; rw [e2]; exact k S' σ' H' f' sl o
  | ct st ow => intro S' σ' H' f' sl o; rw [e3]; exact k S' σ' H' f' sl o
  | ret r ow => intro S' v H' f' o d; rw [e1]; exact k S' v H' f' o d
theorem never_ss {X : Cx} {ss : List Stmt} : PSs X ss (fun _ _ _ => False) := ⟨fun _ _ _ _ _ _ z => z.elim⟩
theorem never_s {X : Cx} {s : Stmt} : PS X s (fun _ _ _ => False) := ⟨fun _ _ _ _ _ _ z => z.elim⟩
theorem pbd_last (h1 : PSD X st ow s out) (hl : Leaves out := by trivial) : PBD X st ow (s :: rest) out :=
  (pss_cons h1 never_ss).imp fun E σ H ⟨S, sl, o, k⟩ => ⟨S, sl, o, goes_leave (E := E) hl k rfl rfl rfl⟩
theorem psd_ret (h : PD X st ow e r ow1) : PSD X st ow (.Return (some e) pos) (.ret r ow1) := (ps_ret h).imp fun E σ H ⟨S, sl, o, k⟩ => ⟨S, sl, o, fun S1 v H1 f1 o1 d1 => k S1 v H1 f1 o1 d1⟩
theorem psd_retN : PSD X st ow (.Return none pos) (.ret (.d .non) ow) := (ps_retN).imp fun E σ H ⟨S, sl, o, k⟩ => k S _ H (.refl S H) o (.d .non)
theorem psd_set {x : Str} {pos' : Pos} (i : Nat) (hN : X.N.Nodup) (he : PD X st ow e r ow1) (hi : X.N[i]? = some x := by rfl) (hx : Loc X.env.scope x := by first | exact Or.inl rfl | exact Or.inr rfl) (hs : swapsWith e (some (.Name x pos')) pos.line X.env = pure false := by rfl)
    (hf : X.fn x = true ∨ X.env.scope.names.lookup x = some .local := by first | exact .inl rfl | exact .inr rfl | assumption) : PSD X st ow (.Assign [.Name x pos'] e pos) (.nx (st.set i (some r)) ow1) :=
  (ps_set hN hi hx he hs hf).imp fun E σ H ⟨S, sl, o, k⟩ => ⟨S, sl, o, fun S1 v H1 f1 o1 d1 => k S1 _ H1 f1 ((f1.slots sl).set i d1) o1⟩
theorem psd_expr (he : PD X st ow e r ow1) (hs : swapsWith e none pos.line X.env = pure false := by rfl) : PSD X st ow (.Expr e pos) (.nx st ow1) := (ps_expr he hs).imp fun E σ H ⟨S, sl, o, k⟩ => ⟨S, sl, o, fun S1 v H1 f1 o1 d1 => k S1 _ H1 f1 (f1.slots sl) o1⟩
theorem psd_if (hc : PTD X st ow c bl ow1) (h1 : bl = true → PBD X st ow1 tb out) (h2 : bl = false → PBD X st ow1 eb out) : PSD X st ow (.If c tb eb pos) out := by
  cases bl with
  | true => exact (ps_if hc (h1 rfl) never_ss).imp fun E σ H ⟨S, sl, o, k⟩ => ⟨S, sl, o, fun S1 H1 f1 o1 => iteT ⟨S1, f1.slots sl, o1, goes_seq k f1 o1⟩⟩
  | false => exact (ps_if hc never_ss (h2 rfl)).imp fun E σ H ⟨S, sl, o, k⟩ => ⟨S, sl, o, fun S1 H1 f1 o1 => iteF ⟨S1, f1.slots sl, o1, goes_seq k f1 o1⟩⟩
/-- if c: (leaves); rest -/
theorem pbd_ifL (hc : PTD X st ow c bl ow1) (h1 : bl = true → PBD X st ow1 tb out) (hl : Leaves out) (h2 : bl = false → PBD X st ow1 rest out) : PBD X st ow (.If c tb [] pos :: rest) out := by
  cases bl with
  | true => exact pbd_last (psd_if hc h1 (fun z => nomatch z)) hl
  | false => exact pbd_cons (psd_if (out := .nx st ow1) hc (fun z => nomatch z) (fun _ => pbd_nil)) (h2 rfl)
theorem psd_pass : PSD X st ow (.Pass pos) (.nx st ow) := (ps_pass).imp fun E σ H ⟨S, sl, o, k⟩ => k S σ H (.refl S H) sl o
/-- fewer things known behind -/
theorem pbd_weak {st' : Sta} (h : PBD X st ow ss (.nx st1 ow1)) (hl : st1.length = st'.length) (hk : ∀ (i : Nat) r, st'[i]? = some (some r) → st1[i]? = some (some r)) : PBD X st ow ss (.nx st' ow1) :=
  PSs.imp h fun E σ H ⟨S, sl, o, k⟩ => ⟨S, sl, o, fun S1 σ1 H1 f1 sl1 o1 => k S1 σ1 H1 f1 (sl1.weak hl hk) o1⟩
end
end Bl
set_option Elab.async false
set_option linter.all false
set_option maxRecDepth 100000
set_option maxHeartbeats 4000000
namespace Bl
open PySem PySem.Spec PyProof.Rows L2

/-! ### mutable lists: append, put -/
theorem own_at {K : PySem.W.Frag} {S : List Addr} {H : Hp} {ow : List OB} {k : Nat} {l : List D} (o : Owns K S H ow) (h : ow[k]? = some (.l l)) : ∃ a xs, S[k]? = some a ∧ H a = some (.lst xs) ∧ Dens K S H xs l := o.at_ k l h
theorem own_putB {K : PySem.W.Frag} {S : List Addr} {H : Hp} {ow : List OB} {k : Nat} {a : Addr} {u : HO} {b' : OB} (o : Owns K S H ow) (hk : S[k]? = some a) (r : ExS S H (upd H a u) → ObAt K S (upd H a u) a b') :
    ExS S H (upd H a u) ∧ Owns K S (upd H a u) (ow.set k b') := by
  have ha : a ∈ S := List.mem_of_getElem? hk
  have ex : ExS S H (upd H a u) := fun b u n h => by
    rw [upd_ne (fun e => n (by rw [e]; exact ha))]
    exact h
  refine ⟨ex, ⟨by rw [List.length_set]; exact o.len, o.nd, fun j l e => ?_⟩⟩
  by_cases hj : k = j
  · subst hj
    have hl : k < ow.length := by
      rw [← o.len]
      exact (List.getElem?_eq_some_iff.mp hk).1
    rw [List.getElem?_set_self hl] at e
    have e' := Option.some.inj e
    subst e'
    exact ⟨a, hk, r ex⟩
  · rw [List.getElem?_set_ne hj] at e
    obtain ⟨b, z, y⟩ := o.ob j l e
    refine ⟨b, z, y.keep ex fun u hu => ?_⟩
    have hb : b ≠ a := fun e => by
      subst e
      have hk' := hk
      exact hj ((List.getElem?_inj (List.getElem?_eq_some_iff.mp hk).1 o.nd).mp (hk.trans z.symm))
    rw [upd_ne hb]
    exact hu
theorem own_put {K : PySem.W.Frag} {S : List Addr} {H : Hp} {ow : List OB} {k : Nat} {a : Addr} {ys : List V} {l' : List D} (o : Owns K S H ow) (hk : S[k]? = some a) (r : Dens K S H ys l') :
    ExS S H (upd H a (.lst ys)) ∧ Owns K S (upd H a (.lst ys)) (ow.set k (.l l')) := own_putB o hk fun ex => .l upd_same (r.mono ex)
theorem fwd_same {K : PySem.W.Frag} {S S' : List Addr} {H H' : Hp} {ow ow' : List OB} (f : Fwd S H S' H') (o : Owns K S H ow) (o' : Owns K S' H' ow') (hl : ow.length = ow'.length) : S' = S := by
  obtain ⟨ps, e, _⟩ := f.gr
  have h1 := o.len
  have h2 := o'.len
  have : ps.length = 0 := by
    have z := congrArg List.length e
    rw [List.length_append] at z
    omega
  have hp : ps = [] := List.length_eq_zero_iff.mp this
  rw [e, hp, List.append_nil]

/-! ### what is walked -/
def WD (K : PySem.W.Frag) (S : List Addr) (H : Hp) (J : It) (xs : List D) : Prop :=
  L2.Walk J xs.length (fun H2 => ∃ S2 ow2, Fwd S H S2 H2 ∧ Owns K S2 H2 ow2) (fun i H2 x H3 => Evl.Ex H2 H3 ∧ ∀ S2 ow2, Fwd S H S2 H2 → Owns K S2 H2 ow2 → ∃ d, xs[i]? = some d ∧ Den K S2 H3 x d)
def tDI (K : PySem.W.Frag) (st : Sta) (ow : List OB) (xs : List D) (ow' : List OB) : TI := fun σ H R => ∃ S, Slots K S H σ st ∧ Owns K S H ow ∧ ∀ S' H' J, Fwd S H S' H' → Owns K S' H' ow' → WD K S' H' J xs → R J H'
abbrev PID (X : Cx) (st : Sta) (ow : List OB) (tg iter : Expr) (xs : List D) (ow' : List OB) : Prop := PI X tg iter (tDI X.K st ow xs ow')
theorem _root_.L2.PI.imp {X : Cx} {tg iter : Expr} {t t' : TI} (h : PI X tg iter t) (f : ∀ σ H Q, t' σ H Q → t σ H Q) : PI X tg iter t' := ⟨fun pins s σ H Q I z => h.run pins s σ H Q I (f σ H Q z)⟩
theorem wd_list {K : PySem.W.Frag} {S : List Addr} {H : Hp} {a : Addr} {ds : List D} (h : Den K S H (.ref a) (.lst ds)) : WD K S H (Itl K a) ds where
  goes := fun i H2 hi ⟨S2, ow2, f, o⟩ => by
    obtain ⟨a', xs, e, h1, h2⟩ := (f.den h : Den K S2 H2 (.ref a) (.lst ds)).of_lst
    cases e
    obtain ⟨x, h3, _⟩ := h2.get (List.getElem?_eq_getElem hi)
    exact ⟨xs, x, h1.sq, h3⟩
  stops := fun H2 ⟨S2, ow2, f, o⟩ => by
    obtain ⟨a', xs, e, h1, h2⟩ := (f.den h : Den K S2 H2 (.ref a) (.lst ds)).of_lst
    cases e
    exact ⟨xs, h1.sq, Nat.le_of_eq h2.length⟩
  yields := fun i H2 x H3 hi _ y => by
    obtain ⟨e, y⟩ := y
    subst e
    refine ⟨Evl.Ex.refl _, fun S2 ow2 f o => ?_⟩
    obtain ⟨a', xs, e, h1, h2⟩ := (f.den h : Den K S2 _ (.ref a) (.lst ds)).of_lst
    cases e
    exact h2.get' (y xs h1.sq)
theorem wd_tup {K : PySem.W.Frag} {S : List Addr} {H : Hp} {a : Addr} {ds : List D} {dd : D} (h : Den K S H (.ref a) dd) (ht : tupL dd = some ds) : WD K S H (Itt K a) ds where
  goes := fun i H2 hi ⟨S2, ow2, f, o⟩ => by
    obtain ⟨a', xs, e, h1, h2⟩ := (f.den h).of_tup ht
    cases e
    obtain ⟨x, h3, _⟩ := Dens.get h2 (List.getElem?_eq_getElem hi)
    exact ⟨xs, x, h1, h3⟩
  stops := fun H2 ⟨S2, ow2, f, o⟩ => by
    obtain ⟨a', xs, e, h1, h2⟩ := (f.den h).of_tup ht
    cases e
    exact ⟨xs, h1, Nat.le_of_eq (Dens.length h2)⟩
  yields := fun i H2 x H3 hi _ y => by
    obtain ⟨e, y⟩ := y
    subst e
    refine ⟨Evl.Ex.refl _, fun S2 ow2 f o => ?_⟩
    obtain ⟨a', xs, e, h1, h2⟩ := (f.den h).of_tup ht
    cases e
    exact Dens.get' h2 (y xs h1)
def rngD (lo : Int) (n : Nat) : List D := (List.range n).map fun (i : Nat) => D.int (lo + (i : Int))
theorem wd_rng {K : PySem.W.Frag} {S : List Addr} {H : Hp} {lo : Int} {n : Nat} : WD K S H (Itr lo n) (rngD lo n) where
  goes := fun i H2 hi _ => by
    have : (rngD lo n).length = n := by simp [rngD]
    rw [this] at hi
    exact hi
  stops := fun H2 _ => by
    have : (rngD lo n).length = n := by simp [rngD]
    rw [this]
    exact Nat.le_refl n
  yields := fun i H2 x H3 hi _ y => by
    obtain ⟨e, rfl⟩ := y
    subst e
    have hn : (rngD lo n).length = n := by simp [rngD]
    rw [hn] at hi
    refine ⟨Evl.Ex.refl _, fun S2 ow2 f o => ⟨.int (lo + (i : Int)), ?_, .int _⟩⟩
    unfold rngD
    rw [List.getElem?_map, List.getElem?_range hi] <;> rfl
def enumD (ds : List D) : List D := ds.zipIdx.map fun p => D.par [.int (p.2 : Nat), p.1]
theorem enumD_len (ds : List D) : (enumD ds).length = ds.length := by simp [enumD]
theorem enumD_get {ds : List D} {i : Nat} {d : D} (h : ds[i]? = some d) : (enumD ds)[i]? = some (D.par [.int (i : Nat), d]) := by
  unfold enumD
  rw [List.getElem?_map, List.getElem?_zipIdx, h]
  simp
theorem wd_enum {K : PySem.W.Frag} {S : List Addr} {H : Hp} {a : Addr} {ds : List D} (h : Den K S H (.ref a) (.lst ds)) : WD K S H (Ite K a) (enumD ds) where
  goes := fun i H2 hi ⟨S2, ow2, f, o⟩ => by
    rw [enumD_len] at hi
    obtain ⟨a', xs, e, h1, h2⟩ := (f.den h : Den K S2 H2 (.ref a) (.lst ds)).of_lst
    cases e
    obtain ⟨x, h3, _⟩ := h2.get (List.getElem?_eq_getElem hi)
    exact ⟨xs, x, h1.sq, h3⟩
  stops := fun H2 ⟨S2, ow2, f, o⟩ => by
    rw [enumD_len]
    obtain ⟨a', xs, e, h1, h2⟩ := (f.den h : Den K S2 H2 (.ref a) (.lst ds)).of_lst
    cases e
    exact ⟨xs, h1.sq, Nat.le_of_eq h2.length⟩
  yields := fun i H2 x H3 hi _ y => by
    obtain ⟨T, x1, rfl, hT, rfl, y⟩ := y
    refine ⟨Evl.Ex.new hT, fun S2 ow2 f o => ?_⟩
    obtain ⟨a', xs, e, h1, h2⟩ := (f.den h : Den K S2 _ (.ref a) (.lst ds)).of_lst
    cases e
    obtain ⟨d, h3, h4⟩ := h2.get' (y xs h1.sq)
    exact ⟨_, enumD_get h3, new_par o hT (.cons (.int _) (.cons h4 .nil))⟩

section
variable {X : Cx} {e a b c o tg iter elt tg1 iter1 : Expr} {es : List Expr} {st st1 st2 : Sta} {ow ow1 ow2 ow3 : List OB} {r : R} {rs : List R} {d x y z : D} {ds xs : List D} {pos p p2 : Pos}
theorem pid_list (h : PD X st ow e (.d (.lst ds)) ow1) : PID X st ow tg e ds ow1 := (pi_list h).imp fun σ H Q ⟨S, sl, o, k⟩ => ⟨S, sl, o, fun S1 v H1 f1 o1 d1 => by
  cases d1 with
  | d d1 =>
    obtain ⟨a, xs, rfl, h1, h2⟩ := d1.of_lst
    exact ⟨a, rfl, ⟨xs, h1.sq⟩, k S1 H1 _ f1 o1 (wd_list d1)⟩⟩
theorem pid_tup {dd : D} (h : PD X st ow e (.d dd) ow1) (ht : tupL dd = some ds := by rfl) : PID X st ow tg e ds ow1 := (pi_tup h).imp fun σ H Q ⟨S, sl, o, k⟩ => ⟨S, sl, o, fun S1 v H1 f1 o1 d1 => by
  cases d1 with
  | d d1 =>
    obtain ⟨a, xs, rfl, h1, h2⟩ := d1.of_tup ht
    exact ⟨a, rfl, ⟨xs, h1⟩, k S1 H1 _ f1 o1 (wd_tup d1 ht)⟩⟩
theorem pid_range1 {n : Int} (hm : X.mg "range" = none) (ha : PADd X st ow [e] [.int n] ow1) (hn : -(2 ^ 62) ≤ n ∧ n < 2 ^ 62) (hg : Gl X "range" := by rfl) (he : starEach [e] X.env = [(false, eval e X.env)] := by rfl) : PID X st ow tg (.Call (.Name "range" p) [e] [] pos) (rngD 0 n.toNat) ow1 :=
  (pi_range1 hg hm ha he).imp fun σ H Q ⟨S, sl, o, k⟩ => ⟨S, sl, o, fun S1 vs H1 f1 o1 d1 => by
    obtain ⟨v, rfl, g⟩ := dens1 (densOf d1)
    exact ⟨n, by rw [g.of_int], hn.1, hn.2, k S1 H1 _ f1 o1 wd_rng⟩⟩
theorem pid_enumL {elts : List Expr} {kk : Nat} {tpos : Pos} (hm : X.mg "enumerate" = none) (ha : PADd X st ow [e] [.lst ds] ow1) (hg : Gl X "enumerate" := by rfl) (hs : starEach [e] X.env = [(false, eval e X.env)] := by rfl) :
    PID X st ow (.Tuple elts kk tpos) (.Call (.Name "enumerate" p) [e] [] pos) (enumD ds) ow1 :=
  (pi_enum hg hm ha hs).imp fun σ H Q ⟨S, sl, o, k⟩ => ⟨S, sl, o, fun S1 vs H1 f1 o1 d1 => by
    obtain ⟨v, rfl, g⟩ := dens1 (densOf d1)
    obtain ⟨a, xs, rfl, h1, h2⟩ := g.of_lst
    exact ⟨a, xs, rfl, h1.sq, k S1 H1 _ f1 o1 (wd_enum g)⟩⟩

/-! ### targets -/
def tDG (K : PySem.W.Frag) (vs : List Nat) (st : Sta) (d : D) (st' : Sta) : TG := fun v σ H Q => ∃ S, Slots K S H σ st ∧ Den K S H v d ∧ ∀ σ', Slots K S H σ' st' → wipe σ' vs = wipe σ vs → Q σ' H
def tDGs (K : PySem.W.Frag) (vs : List Nat) (st : Sta) (ds : List D) (st' : Sta) : TGs := fun us σ H Q => ∃ S, Slots K S H σ st ∧ Dens K S H us ds ∧ ∀ σ', Slots K S H σ' st' → wipe σ' vs = wipe σ vs → Q σ' H
abbrev PGD (X : Cx) (vs : List Nat) (st : Sta) (d : D) (tg : Expr) (st' : Sta) : Prop := PG X tg (tDG X.K vs st d st')
abbrev PGsD (X : Cx) (vs : List Nat) (st : Sta) (ds : List D) (ts : List Expr) (st' : Sta) : Prop := PGs X ts (tDGs X.K vs st ds st')
theorem _root_.L2.PG.imp {X : Cx} {tg : Expr} {t t' : TG} (h : PG X tg t) (f : ∀ v σ H Q, t' v σ H Q → t v σ H Q) : PG X tg t' := ⟨fun pins s σ H v u Q I r z => h.run pins s σ H v u Q I r (f v σ H Q z)⟩
theorem _root_.L2.PGs.imp {X : Cx} {ts : List Expr} {t t' : TGs} (h : PGs X ts t) (f : ∀ v σ H Q, t' v σ H Q → t v σ H Q) : PGs X ts t' := ⟨fun pins s σ H v u Q I r z => h.run pins s σ H v u Q I r (f v σ H Q z)⟩
theorem set_set_comm' {α : Type} : ∀ (l : List α) (i j : Nat) (a b : α), i ≠ j → (l.set i a).set j b = (l.set j b).set i a
  | [], _, _, _, _, _ => rfl
  | _ :: _, 0, 0, _, _, h => absurd rfl h
  | _ :: _, 0, _ + 1, _, _, _ => rfl
  | _ :: _, _ + 1, 0, _, _, _ => rfl
  | x :: l, i + 1, j + 1, a, b, h => by
    show x :: ((l.set i a).set j b) = x :: ((l.set j b).set i a)
    rw [set_set_comm' l i j a b (fun e => h (by rw [e]))]
theorem wipe_set_in {σ : L2.St} {i : Nat} {v : Option V} : ∀ {vs : List Nat}, i ∈ vs → wipe (σ.set i v) vs = wipe σ vs
  | [], h => nomatch h
  | w :: vs, h => by
    unfold wipe
    by_cases hi : i ∈ vs
    · rw [wipe_set_in hi]
    · have e : i = w := by
        rcases List.mem_cons.mp h with z | z
        · exact z
        · exact absurd z hi
      subst e
      have out : ∀ {vs : List Nat}, i ∉ vs → wipe (σ.set i v) vs = (wipe σ vs).set i v := by
        intro vs
        induction vs with
        | nil => intro _; rfl
        | cons u vs ih =>
          intro hn
          unfold wipe
          rw [ih (fun z => hn (List.mem_cons_of_mem _ z)), set_set_comm' _ _ _ _ _ (fun e => hn (by rw [e]; exact List.mem_cons_self))]
      rw [out hi, List.set_set]
theorem pgd_name {x : Str} {vs : List Nat} (i : Nat) (hN : X.N.Nodup) (hv : vs = [] ∨ i ∈ vs := by first | (exact Or.inr (by decide)) | exact Or.inl rfl) (hi : X.N[i]? = some x := by rfl) (hx : Loc X.env.scope x := by first | exact Or.inl rfl | exact Or.inr rfl)
    (hf : X.fn x = true ∨ X.env.scope.names.lookup x = some .local := by first | exact .inl rfl | exact .inr rfl | assumption) (hvs : i ∈ vs := by decide) : PGD X vs st d (.Name x pos) (st.set i (some (.d d))) :=
  (pg_name hN hi hx hf).imp fun v σ H Q ⟨S, sl, dd, k⟩ => k _ (sl.set i (.d dd)) (wipe_set_in hvs)
theorem pgsd_nil {vs : List Nat} : PGsD X vs st [] [] st := (pgs_nil).imp fun us σ H Q ⟨S, sl, dd, k⟩ => by
  cases us with
  | nil => exact ⟨rfl, k σ sl rfl⟩
  | cons u us => cases dd
theorem pgsd_cons {vs : List Nat} (h : PGD X vs st d a st1) (t : PGsD X vs st1 ds es st2) (hs : (assignEach (a :: es) X.env).map (·.2) = assign a X.env :: (assignEach es X.env).map (·.2) := by rfl) : PGsD X vs st (d :: ds) (a :: es) st2 := (pgs_cons h t hs).imp fun us σ H Q ⟨S, sl, dd, k⟩ => by
  cases us with
  | nil => cases dd
  | cons u us => exact ⟨u, us, rfl, S, sl, dd.uncons.1, fun σ1 sl1 w1 => ⟨S, sl1, dd.uncons.2, fun σ2 sl2 w2 => k σ2 sl2 (w2.trans w1)⟩⟩
theorem pgd_tup {vs : List Nat} {k : Nat} {dd : D} (hc : X.calm = true) (h : PGsD X vs st ds es st1) (ht : tupL dd = some ds := by rfl) (hn : (assignEach es X.env).length = ds.length := by rfl) (hst : (assignEach es X.env).findIdx? (·.1) = none := by rfl) : PGD X vs st dd (.Tuple es k pos) st1 :=
  (pg_tup hc h hn hst).imp fun v σ H Q ⟨S, sl, dd, k⟩ => by
    obtain ⟨a, xs, rfl, h1, h2⟩ := dd.of_tup ht
    exact ⟨a, xs, rfl, h1, Dens.length h2, S, sl, h2, k⟩
/-- a, b, .. = e, e a tuple -/
theorem psd_asgT {tgt : Expr} {vs : List Nat} (he : PD X st ow e (.d d) ow1) (hg : PGD X vs st d tgt st1) (hs : swapsWithSole [tgt] e pos.line X.env = pure false := by rfl) (hw : swappedStores [tgt] e X.env = pure none := by rfl)
    (h1 : (assignEach [tgt] X.env).map (·.2) = [assign tgt X.env] := by rfl) : PSD X st ow (.Assign [tgt] e pos) (.nx st1 ow1) :=
  (ps_asg he hg hs hw h1).imp fun E σ H ⟨S, sl, o, k⟩ => ⟨S, sl, o, fun S1 v H1 f1 o1 d1 => by
    cases d1 with
    | d d1 => exact ⟨S1, f1.slots sl, d1, fun σ' sl' _ => k S1 σ' H1 f1 sl' o1⟩⟩

/-! ### for -/
theorem pss_ex {ι : Sort _} {ss : List Stmt} {t : ι → TS} (h : ∀ i, PSs X ss (t i)) : PSs X ss (fun E σ H => ∃ i, t i E σ H) := ⟨fun pins s σ H E I ⟨i, z⟩ => (h i).run pins s σ H E I z⟩
theorem pg_ex {ι : Sort _} {tg : Expr} {t : ι → TG} (h : ∀ i, PG X tg (t i)) : PG X tg (fun v σ H Q => ∃ i, t i v σ H Q) := ⟨fun pins s σ H v u Q I r ⟨i, z⟩ => (h i).run pins s σ H v u Q I r z⟩
theorem pe_ex {ι : Sort _} {e : Expr} {t : ι → TE} (h : ∀ i, PE X e (t i)) : PE X e (fun σ H Q => ∃ i, t i σ H Q) := ⟨fun pins s σ H Q I ⟨i, z⟩ => (h i).run pins s σ H Q I z⟩
theorem pts_ex {ι : Sort _} {e : List Expr} {t : ι → TT} (h : ∀ i, PTs X e (t i)) : PTs X e (fun σ H Q => ∃ i, t i σ H Q) := ⟨fun pins s σ H Q I ⟨i, z⟩ => (h i).run pins s σ H Q I z⟩
theorem pi_ex {ι : Sort _} {tg e : Expr} {t : ι → TI} (h : ∀ i, PI X tg e (t i)) : PI X tg e (fun σ H Q => ∃ i, t i σ H Q) := ⟨fun pins s σ H Q I ⟨i, z⟩ => (h i).run pins s σ H Q I z⟩
/-- at turn i: to the next turn -/
def Onw (Iv : Nat → Sta) (Io : Nat → List OB) (i : Nat) (o : Out) : Prop := o = .nx (Iv (i + 1)) (Io (i + 1)) ∨ o = .ct (Iv (i + 1)) (Io (i + 1))
variable {body : List Stmt} {out : Out}
abbrev FIx (xs : List D) (m : Option Nat) := { p : Nat × D // xs[p.1]? = some p.2 ∧ ∀ k, m = some k → p.1 ≤ k }
def fTG (K : PySem.W.Frag) (vs : List Nat) (Iv stm : Nat → Sta) (xs : List D) (m : Option Nat) : TG := fun v σ H Q => ∃ i : FIx xs m, tDG K vs (Iv i.1.1) i.1.2 (stm i.1.1) v σ H Q
def fTS (K : PySem.W.Frag) (stm : Nat → Sta) (Io : Nat → List OB) (oo : Nat → Out) (xs : List D) (m : Option Nat) : TS := fun E σ H => ∃ i : FIx xs m, tDS K (stm i.1.1) (Io i.1.1) (oo i.1.1) E σ H
/-- a for whose turns up to m go on (m = none: all of them); at turn m it leaves by out -/
theorem psd_forG (vs : List Nat) (Iv : Nat → Sta) (Io : Nat → List OB) (m : Option Nat) (stm : Nat → Sta) (oo : Nat → Out) (hp : PassesOwn (model X.prog X.w) X.A X.env X.xe) (hc : X.calm = true) (hi : PID X st ow tg iter xs ow1)
    (h0 : st.length = (Iv 0).length ∧ ∀ (i : Nat) r, (Iv 0)[i]? = some (some r) → st[i]? = some (some r)) (h0o : Io 0 = ow1)
    (hg : ∀ i d, xs[i]? = some d → (∀ k, m = some k → i ≤ k) → PGD X vs (Iv i) d tg (stm i))
    (hb : ∀ i d, xs[i]? = some d → (∀ k, m = some k → i ≤ k) → PBD X (stm i) (Io i) body (oo i))
    (ho : ∀ i, i < xs.length → (∀ k, m = some k → i ≤ k) → if m = some i then (match oo i with
      | .ret r w => out = .ret r w
      | .brk s w => out = .nx s w
      | _ => False) else Onw Iv Io i (oo i))
    (hend : match m with
      | none => out = .nx (Iv xs.length) (Io xs.length)
      | some k => k < xs.length)
    (hs : ∀ x, foldedSetIterable iter X.env x = pure x := by intro _; rfl) : PSD X st ow (.For tg iter body [] pos) out := by
  refine (ps_for (g := fTG X.K vs Iv stm xs m) (tb := fTS X.K stm Io oo xs m) hp hc hi (pg_ex (ι := FIx xs m) fun i => hg i.1.1 i.1.2 i.2.1 i.2.2) (pss_ex (ι := FIx xs m) fun i => hb i.1.1 i.1.2 i.2.1 i.2.2) hs).imp fun E σ H ⟨S, sl, o, k⟩ => ?_
  refine ⟨S, sl, o, fun S1 H1 J f1 o1 w1 => ?_⟩
  refine for_it (D := E) (g := fTG X.K vs Iv stm xs m) (tb := fTS X.K stm Io oo xs m) w1 (fun i σ' H' => (∀ k, m = some k → i ≤ k) ∧ ∃ S', Fwd S1 H1 S' H' ∧ Slots X.K S' H' σ' (Iv i) ∧ Owns X.K S' H' (Io i)) ⟨fun k _ => Nat.zero_le k, S1, .refl S1 H1, (f1.slots sl).weak h0.1 h0.2, by rw [h0o]; exact o1⟩ (fun i σ' H' hi ⟨_, S', f', _, o'⟩ => ⟨S', _, f', o'⟩) (fun i x σ' H' H2 hi ⟨hm, S', f', sl', o'⟩ ⟨ex, y⟩ => ?_) (fun σ' H' ⟨hm, S', f', sl', o'⟩ => ?_)
  · obtain ⟨d, hd, dd⟩ := y S' _ f' o'
    refine ⟨⟨(i, d), hd, hm⟩, S', (Fwd.of ex).slots sl', dd, fun σ2 sl2 _ => ⟨⟨(i, d), hd, hm⟩, S', sl2, o'.ex ex, ?_⟩⟩
    have f2 : Fwd S1 H1 S' H2 := f'.trans o' (.of ex)
    have hoi := ho i hi hm
    have f0 : Fwd S H S' H2 := f1.trans o1 f2
    by_cases he : m = some i
    · rw [if_pos he] at hoi
      show Goes X.K S' H2 _ (oo i)
      cases hoo : oo i with
      | nx s w => rw [hoo] at hoi; exact hoi.elim
      | ct s w => rw [hoo] at hoi; exact hoi.elim
      | ret r w =>
        rw [hoo] at hoi
        subst hoi
        exact fun S3 v H3 f3 o3 d3 => k S3 v H3 (f0.trans (o'.ex ex) f3) o3 d3
      | brk s w =>
        rw [hoo] at hoi
        subst hoi
        exact fun S3 σ3 H3 f3 sl3 o3 => k S3 σ3 H3 (f0.trans (o'.ex ex) f3) sl3 o3
    · rw [if_neg he] at hoi
      have hm1 : ∀ k, m = some k → i + 1 ≤ k := fun k hk => by
        have h1 := hm k hk
        have h2 : i ≠ k := fun e => he (by rw [e]; exact hk)
        omega
      show Goes X.K S' H2 _ (oo i)
      rcases hoi with e | e
      · rw [e]
        exact fun S3 σ3 H3 f3 sl3 o3 => ⟨hm1, S3, f2.trans (o'.ex ex) f3, sl3, o3⟩
      · rw [e]
        exact fun S3 σ3 H3 f3 sl3 o3 => ⟨hm1, S3, f2.trans (o'.ex ex) f3, sl3, o3⟩
  · cases m with
    | none =>
      have hend : out = .nx (Iv xs.length) (Io xs.length) := hend
      subst hend
      exact k S' σ' H' (f1.trans o1 f') sl' o'
    | some k0 =>
      have h1 := hm k0 rfl
      have h2 : k0 < xs.length := hend
      omega
end
end Bl
set_option Elab.async false
set_option linter.all false
set_option maxRecDepth 100000
set_option maxHeartbeats 4000000
namespace Bl
open PySem PySem.Spec PyProof.Rows L2

section
variable {X : Cx} {e a b c o tg iter elt tg1 iter1 : Expr} {es ifs ifs1 : List Expr} {scope : Scope} {own : List (Str × Nat)} {st st1 st2 : Sta} {ow ow1 ow2 ow3 : List OB} {r : R} {rs : List R} {d x y z : D} {ds xs : List D} {pos p p2 : Pos}
abbrev AtBlk (X : Cx) (scope : Scope) (P : Cx → Prop) : Prop := ∀ (s : Shared) (H : Hp) (C : Addr) (cl : List (Str × Addr)) (fp : List Addr), P (X.blk s H scope (compEnvC scope cl C X.env) fp)
abbrev PTsD (X : Cx) (st : Sta) (ow : List OB) (es : List Expr) (b : Bool) : Prop := PTs X es (tDT X.K st ow b ow)
theorem ptsd_nil : PTsD X st ow [] true := ⟨fun pins s σ H Q I ⟨S, sl, o, k⟩ => pts_nil.run pins s σ H Q I (k S H (.refl S H) o)⟩
theorem ptsd_one {q : Bool} (h : PTD X st ow e q ow) : PTsD X st ow [e] q := ⟨fun pins s σ H Q I z => (pts_one h).run pins s σ H Q I z⟩
theorem take_succ_of {α : Type} {l : List α} {i : Nat} {x : α} (h : l[i]? = some x) : l.take (i + 1) = l.take i ++ [x] := by
  rw [List.take_add_one, h] <;> rfl
theorem take_all {α : Type} (l : List α) : l.take l.length = l := List.take_of_length_le (Nat.le_refl _)
theorem map_some_of {α β : Type} {f : α → β} {l : List α} {i : Nat} {d : β} (h : (l.map f)[i]? = some d) : ∃ x, l[i]? = some x ∧ f x = d := by
  rw [List.getElem?_map] at h
  cases e : l[i]? with
  | none => rw [e] at h; cases h
  | some x => rw [e] at h; exact ⟨x, rfl, Option.some.inj h⟩
theorem owns_last {K : PySem.W.Frag} {S : List Addr} {H : Hp} {D : Addr} {l : List Bl.D} (o : Owns K (S ++ [D]) H (ow ++ [.l l])) : ∃ xs, (S ++ [D])[ow.length]? = some D ∧ H D = some (.lst xs) ∧ Dens K (S ++ [D]) H xs l := by
  have hl := o.len
  rw [List.length_append, List.length_append] at hl
  have hl : S.length + 1 = ow.length + 1 := hl
  obtain ⟨a, xs, z, y, w⟩ := o.at_ ow.length l (by rw [List.getElem?_append_right (Nat.le_refl _), Nat.sub_self] <;> rfl)
  have e : (S ++ [D])[ow.length]? = some D := by rw [List.getElem?_append_right (by omega), show ow.length - S.length = 0 by omega] <;> rfl
  rw [e] at z
  cases z
  exact ⟨xs, e, y, w⟩
theorem set_last {b b' : OB} : (ow ++ [b]).set ow.length b' = ow ++ [b'] := by
  rw [List.set_append_right _ _ (Nat.le_refl _), Nat.sub_self] <;> rfl
/-- the state while a comprehension's list grows at D -/
structure LcP (K : PySem.W.Frag) (S1 : List Addr) (H1 : Hp) (D : Addr) (ow1 : List OB) (acc : List Bl.D) (H' : Hp) : Prop where
  f : Fwd S1 H1 (S1 ++ [D]) H'
  o : Owns K (S1 ++ [D]) H' (ow1 ++ [.l acc])
theorem LcP.app {K : PySem.W.Frag} {S1 : List Addr} {H1 H4 : Hp} {D : Addr} {acc : List Bl.D} {y : V} {d : Bl.D} (h : LcP K S1 H1 D ow1 acc H4) (hd : Den K (S1 ++ [D]) H4 y d) (hz : acc.length < 100000) :
    ∃ vs, H4 D = some (.lst vs) ∧ vs.length < sizeLine ∧ LcP K S1 H1 D ow1 (acc ++ [d]) (upd H4 D (.lst (vs ++ [y]))) := by
  obtain ⟨vs, e1, e2, e3⟩ := owns_last h.o
  have hl := e3.length
  obtain ⟨g1, g2⟩ := own_put (l' := acc ++ [d]) h.o e1 (Dens.append e3 (.cons hd .nil))
  rw [set_last] at g2
  refine ⟨vs, e2, by rw [hl]; exact Evl.sz_lt hz, ⟨?_, g2⟩⟩
  refine h.f.trans h.o ⟨⟨[], (List.append_nil _).symm, fun _ z => nomatch z⟩, g1⟩
theorem LcP.on {K : PySem.W.Frag} {S1 S2 : List Addr} {H1 H4 H5 : Hp} {D : Addr} {acc : List Bl.D} (h : LcP K S1 H1 D ow1 acc H4) (f : Fwd (S1 ++ [D]) H4 S2 H5) (o : Owns K S2 H5 (ow1 ++ [.l acc])) : S2 = S1 ++ [D] ∧ LcP K S1 H1 D ow1 acc H5 := by
  have e := fwd_same f h.o o rfl
  subst e
  exact ⟨rfl, h.f.trans h.o f, o⟩
theorem wipe_get {σ : L2.St} {i : Nat} : ∀ {vs : List Nat}, (wipe σ vs)[i]? = if i ∈ vs then (σ[i]?).map (fun _ => none) else σ[i]?
  | [] => by simp [wipe]
  | v :: vs => by
    have ih := wipe_get (σ := σ) (i := i) (vs := vs)
    unfold wipe
    by_cases hv : v = i
    · subst hv
      rw [if_pos (List.mem_cons_self)]
      by_cases hl : v < (wipe σ vs).length
      · rw [List.getElem?_set_self hl]
        rw [wipe_length] at hl
        rw [List.getElem?_eq_getElem hl] <;> rfl
      · have hl2 : σ.length ≤ v := by rw [wipe_length] at hl; omega
        rw [List.getElem?_eq_none (by rw [List.length_set]; omega), List.getElem?_eq_none hl2] <;> rfl
    · rw [List.getElem?_set_ne hv, ih]
      by_cases hm : i ∈ vs
      · rw [if_pos hm, if_pos (List.mem_cons_of_mem _ hm)]
      · rw [if_neg hm, if_neg (fun z => by
          rcases List.mem_cons.mp z with y | y
          · exact hv y.symm
          · exact hm y)]
theorem wipe_wipe (σ : L2.St) (vs : List Nat) : wipe (wipe σ vs) vs = wipe σ vs := by
  apply List.ext_getElem?
  intro i
  rw [wipe_get, wipe_get]
  split
  · cases σ[i]? <;> rfl
  · rfl
section
variable {α : Type} (as : List α) (enc : α → D) (stx : α → Sta) (pp : α → Bool) (ff : α → D)
def lG (K : PySem.W.Frag) (vs : List Nat) (st : Sta) : TG := fun v σ H Q => ∃ x : { x : α // x ∈ as }, tDG K vs (wipeD st vs) (enc x.1) (stx x.1) v σ H Q
def lT (K : PySem.W.Frag) (ow1 : List OB) : TT := fun σ H Q => ∃ x : { p : α × List D // p.1 ∈ as }, tDT K (stx x.1.1) (ow1 ++ [.l x.1.2]) (pp x.1.1) (ow1 ++ [.l x.1.2]) σ H Q
def lE (K : PySem.W.Frag) (ow1 : List OB) : TE := fun σ H Q => ∃ x : { p : α × List D // p.1 ∈ as ∧ pp p.1 = true }, tD K (stx x.1.1) (ow1 ++ [.l x.1.2]) (.d (ff x.1.1)) (ow1 ++ [.l x.1.2]) σ H Q
theorem lc_read {K : PySem.W.Frag} {vs : List Nat} {Q : VK} {σ : L2.St} {S1 : List Addr} {H1 : Hp} {J : It} (w1 : WD K S1 H1 J (as.map enc)) (sl : Slots K S1 H1 σ st) (o1 : Owns K S1 H1 ow1) (hlen : as.length ≤ 40000)
    (k : ∀ v H', Fwd S1 H1 S1 H' → Owns K S1 H' ow1 → Den K S1 H' v (.lst ((as.filter pp).map ff)) → Q v H') :
    ∀ D, H1 D = none → ∃ W : Nat → Nat → Hp → Prop, (∃ m, W 0 m (upd H1 D (.lst []))) ∧ ∀ i m H, W i m H →
      (J.stop i H ∧ Q (.ref D) H) ∨ (J.go i H ∧ ∃ Nx : Hp → Prop, (∀ H', Nx H' → ∃ m', m' < m ∧ W (i + 1) m' H') ∧ ∀ x H', J.yld i H x H' → lG as enc stx K vs st x (wipe σ vs) H' fun σ2 H2 => wipe σ2 vs = wipe σ vs ∧ lT as stx pp K ow1 σ2 H2 fun b H3 =>
        if b = true then lE as stx pp ff K ow1 σ2 H3 fun y H4 => ∃ acc, H4 D = some (.lst acc) ∧ acc.length < sizeLine ∧ Nx (upd H4 D (.lst (acc ++ [y]))) else Nx H3) := by
  intro D hD
  have hn := own_new (xs := []) (ds := []) o1 hD .nil
  have w1' : WD K S1 H1 J (as.map enc) := w1
  have hln : (as.map enc).length = as.length := List.length_map ..
  refine lc_it (Qd := Q (.ref D)) w1 (fun i H' => LcP K S1 H1 D ow1 (((as.take i).filter pp).map ff) H') ⟨hn.1, hn.2.1⟩ (fun i H' _ p => ⟨_, _, p.f, p.o⟩) (fun i x H' H2 hi p ⟨ex, y⟩ => ?_) (fun H' p => ?_)
  · obtain ⟨d, hd, dd⟩ := y _ _ p.f p.o
    obtain ⟨xa, hxa, rfl⟩ := map_some_of hd
    have hmem : xa ∈ as := List.mem_of_getElem? hxa
    have p2 : LcP K S1 H1 D ow1 (((as.take i).filter pp).map ff) H2 := ⟨p.f.trans p.o (.of ex), p.o.ex ex⟩
    have hts := take_succ_of hxa
    have hz : ((List.filter pp (as.take i)).map ff).length < 100000 := by
      rw [List.length_map]
      have h1 := List.length_filter_le pp (as.take i)
      rw [List.length_take] at h1
      omega
    refine ⟨⟨xa, hmem⟩, S1 ++ [D], (p2.f.slots sl).wipe vs, dd, fun σ2 sl2 hw => ⟨hw.trans (wipe_wipe σ vs), ⟨(xa, _), hmem⟩, S1 ++ [D], sl2, p2.o, fun S3 H3 f3 o3 => ?_⟩⟩
    obtain ⟨e3, p3⟩ := p2.on f3 o3
    subst e3
    have hb' : pp (xa, ((as.take i).filter pp).map ff).1 = pp xa := rfl
    show (if pp xa = true then _ else _)
    cases hb : pp xa with
    | true =>
      refine iteT ⟨⟨(xa, _), hmem, hb⟩, S1 ++ [D], f3.slots sl2, o3, fun S4 v H4 f4 o4 d4 => ?_⟩
      obtain ⟨e4, p4⟩ := p3.on f4 o4
      subst e4
      cases d4 with
      | d d4 =>
        obtain ⟨acc, h1, h2, h3⟩ := p4.app d4 hz
        refine ⟨acc, h1, h2, ?_⟩
        show LcP K S1 H1 D ow1 (((as.take (i + 1)).filter pp).map ff) _
        rw [hts, List.filter_append, List.map_append, List.filter_cons, if_pos hb]
        exact h3
    | false =>
      refine iteF ?_
      show LcP K S1 H1 D ow1 (((as.take (i + 1)).filter pp).map ff) _
      rw [hts, List.filter_append, List.map_append, List.filter_cons, if_neg (by rw [hb]; decide)]
      simpa using p3
  · have p' : LcP K S1 H1 D ow1 (((as.take (as.map enc).length).filter pp).map ff) H' := p
    rw [hln, take_all] at p'
    have hr : DenR K (S1 ++ [D]) H' (.ref D) (.own ow1.length) := .own (owns_last p'.o).choose_spec.1
    obtain ⟨g1, g2, g3⟩ := owns_drop p'.f o1 p'.o rfl ⟨fun _ h => h, fun _ h => h⟩ hr
    exact k _ _ g1 g2 g3
end
theorem pd_lc {α : Type} (as : List α) (enc : α → D) (stx : α → Sta) (pp : α → Bool) (ff : α → D) (hc : X.calm = true) (hN : X.N.Nodup) (hi : PID X st ow tg iter (as.map enc) ow1) (ok : BlkOk X.N X.env.scope scope own) (hlen : as.length ≤ 40000)
    (hg : ∀ x, x ∈ as → AtBlk X scope fun Y => PGD Y (own.map (·.2)) (wipeD st (own.map (·.2))) (enc x) tg (stx x)) (ht : ∀ x, x ∈ as → ∀ l, AtBlk X scope fun Y => PTsD Y (stx x) (ow1 ++ [.l l]) ifs (pp x))
    (he : ∀ x, x ∈ as → pp x = true → ∀ l, AtBlk X scope fun Y => PD Y (stx x) (ow1 ++ [.l l]) elt (.d (ff x)) (ow1 ++ [.l l])) (hs : ∀ x, foldedSetIterable iter X.env x = pure x := by intro _; rfl) :
    PD X st ow (.ListComp elt [⟨tg, iter, ifs, 0⟩] scope pos) (.d (.lst ((as.filter pp).map ff))) ow1 :=
  (pe_lc (g := lG as enc stx X.K (own.map (·.2)) st) (tt := lT as stx pp X.K ow1) (te := lE as stx pp ff X.K ow1) hc hN hi ok (fun s H C cl fp => pg_ex fun x => hg x.1 x.2 s H C cl fp) (fun s H C cl fp => pts_ex fun x => ht x.1.1 x.2 x.1.2 s H C cl fp)
    (fun s H C cl fp => pe_ex fun x => he x.1.1 x.2.1 x.2.2 x.1.2 s H C cl fp) hs).imp fun σ H Q ⟨S, sl, o, q⟩ => ⟨S, sl, o, fun S1 H1 J f1 o1 w1 => lc_read as enc stx pp ff w1 (f1.slots sl) o1 hlen fun v H' g1 g2 g3 => q S1 v H' (f1.trans o1 g1) g2 (.d g3)⟩
/-- y = [..] -/
theorem psd_setLc {α : Type} {yn : Str} {py spos : Pos} (i : Nat) (as : List α) (enc : α → D) (stx : α → Sta) (pp : α → Bool) (ff : α → D) (hc : X.calm = true) (hN : X.N.Nodup) (hi : PID X st ow tg iter (as.map enc) ow1) (ok : BlkOk X.N X.env.scope scope own) (hlen : as.length ≤ 40000)
    (hg : ∀ x, x ∈ as → AtBlk X scope fun Y => PGD Y (own.map (·.2)) (wipeD st (own.map (·.2))) (enc x) tg (stx x)) (ht : ∀ x, x ∈ as → ∀ l, AtBlk X scope fun Y => PTsD Y (stx x) (ow1 ++ [.l l]) ifs (pp x))
    (he : ∀ x, x ∈ as → pp x = true → ∀ l, AtBlk X scope fun Y => PD Y (stx x) (ow1 ++ [.l l]) elt (.d (ff x)) (ow1 ++ [.l l]))
    (hsw : swapsWith (.ListComp elt [⟨tg, iter, ifs, 0⟩] scope pos) (some (.Name yn py)) spos.line X.env = pure true := by exact sw_true rfl rfl rfl (by decide +kernel)) (hy : X.N[i]? = some yn := by rfl) (hyl : X.env.scope.names.lookup yn = some .local := by rfl) (hs : ∀ x, foldedSetIterable iter X.env x = pure x := by intro _; rfl) :
    PSD X st ow (.Assign [.Name yn py] (.ListComp elt [⟨tg, iter, ifs, 0⟩] scope pos) spos) (.nx (st.set i (some (.d (.lst ((as.filter pp).map ff))))) ow1) :=
  (ps_setLc (i := i) (g := lG as enc stx X.K (own.map (·.2)) st) (tt := lT as stx pp X.K ow1) (te := lE as stx pp ff X.K ow1) hc hN hy hyl hsw hi ok (fun s H C cl fp => pg_ex fun x => hg x.1 x.2 s H C cl fp) (fun s H C cl fp => pts_ex fun x => ht x.1.1 x.2 x.1.2 s H C cl fp)
    (fun s H C cl fp => pe_ex fun x => he x.1.1 x.2.1 x.2.2 x.1.2 s H C cl fp) hs).imp fun E σ H ⟨S, sl, o, q⟩ => ⟨S, sl, o, fun S1 H1 J f1 o1 w1 => lc_read (vs := own.map (·.2)) (Q := fun x H1 => gName i x σ H1 E.nx) as enc stx pp ff w1 (f1.slots sl) o1 hlen fun v H' g1 g2 g3 =>
      q S1 _ H' (f1.trans o1 g1) (((f1.trans o1 g1).slots sl).set i (.d g3)) g2⟩
end
end Bl
set_option Elab.async false
set_option linter.all false
set_option maxRecDepth 100000
set_option maxHeartbeats 4000000
namespace Bl
open PySem PySem.Spec PyProof.Rows L2

section
variable {X : Cx} {e a b c o tg iter elt tg1 iter1 : Expr} {es ifs ifs1 : List Expr} {scope : Scope} {own : List (Str × Nat)} {st st1 st2 : Sta} {ow ow1 ow2 ow3 : List OB} {r : R} {rs : List R} {d x y z : D} {ds xs : List D} {pos p p2 : Pos}
section
variable {α β : Type} (as : List α) (enc : α → D) (stx : α → Sta) (bs : α → List β) (enc2 : α → β → D) (sty : α → β → Sta) (qq : α → β → Bool) (ff : α → β → D) (vs1 : List Nat)
/-- what the second clause gives for x, its first j turns -/
def part2 (x : α) (j : Nat) : List D := (((bs x).take j).filter (qq x)).map (ff x)
def all2 (l : List α) : List D := l.flatMap fun x => ((bs x).filter (qq x)).map (ff x)
def l2I (K : PySem.W.Frag) (ow1 : List OB) : TI := fun σ H R => ∃ x : { p : α × List D // p.1 ∈ as }, tDI K (stx x.1.1) (ow1 ++ [.l x.1.2]) ((bs x.1.1).map (enc2 x.1.1)) (ow1 ++ [.l x.1.2]) σ H R
def l2G (K : PySem.W.Frag) (vs1 : List Nat) : TG := fun v σ H Q => ∃ x : { p : α × β // p.1 ∈ as ∧ p.2 ∈ bs p.1 }, tDG K vs1 (wipeD (stx x.1.1) vs1) (enc2 x.1.1 x.1.2) (sty x.1.1 x.1.2) v σ H Q
def l2T (K : PySem.W.Frag) (ow1 : List OB) : TT := fun σ H Q => ∃ x : { p : α × β × List D // p.1 ∈ as ∧ p.2.1 ∈ bs p.1 }, tDT K (sty x.1.1 x.1.2.1) (ow1 ++ [.l x.1.2.2]) (qq x.1.1 x.1.2.1) (ow1 ++ [.l x.1.2.2]) σ H Q
def l2E (K : PySem.W.Frag) (ow1 : List OB) : TE := fun σ H Q => ∃ x : { p : α × β × List D // p.1 ∈ as ∧ p.2.1 ∈ bs p.1 ∧ qq p.1 p.2.1 = true }, tD K (sty x.1.1 x.1.2.1) (ow1 ++ [.l x.1.2.2]) (.d (ff x.1.1 x.1.2.1)) (ow1 ++ [.l x.1.2.2]) σ H Q
theorem lc2_read {K : PySem.W.Frag} {vs : List Nat} {Q : VK} {σ : L2.St} {S1 : List Addr} {H1 : Hp} {J : It} (w1 : WD K S1 H1 J (as.map enc)) (sl : Slots K S1 H1 σ st) (o1 : Owns K S1 H1 ow1) (hlen : ∀ l : List α, l <+: as → (all2 bs qq ff l).length + 40000 ≤ 80000) (hb : ∀ x, x ∈ as → (bs x).length ≤ 40000)
    (k : ∀ v H', Fwd S1 H1 S1 H' → Owns K S1 H' ow1 → Den K S1 H' v (.lst (all2 bs qq ff as)) → Q v H') :
    ∀ D, H1 D = none → ∃ W : Nat → Nat → Hp → Prop, (∃ m, W 0 m (upd H1 D (.lst []))) ∧ ∀ i m H, W i m H →
      (J.stop i H ∧ Q (.ref D) H) ∨ (J.go i H ∧ ∃ Nx : Hp → Prop, (∀ H', Nx H' → ∃ m', m' < m ∧ W (i + 1) m' H') ∧ ∀ x H', J.yld i H x H' → lG as enc stx K vs st x (wipe σ vs) H' fun σ2 H2 => wipe σ2 vs = wipe σ vs ∧ tYes σ2 H2 fun b H3 =>
        if b = true then l2I as stx bs enc2 K ow1 σ2 H3 fun J1 H4 => ∃ W1 : Nat → Nat → Hp → Prop, (∃ m, W1 0 m H4) ∧ ∀ j k H, W1 j k H →
          (J1.stop j H ∧ Nx H) ∨ (J1.go j H ∧ ∃ Nx1 : Hp → Prop, (∀ H', Nx1 H' → ∃ k', k' < k ∧ W1 (j + 1) k' H') ∧ ∀ x H', J1.yld j H x H' → l2G as stx bs enc2 sty K vs1 x (wipe σ2 vs1) H' fun σ3 H5 => wipe σ3 vs1 = wipe σ2 vs1 ∧ l2T as bs sty qq K ow1 σ3 H5 fun b H6 =>
            if b = true then l2E as bs sty qq ff K ow1 σ3 H6 fun y H7 => ∃ acc, H7 D = some (.lst acc) ∧ acc.length < sizeLine ∧ Nx1 (upd H7 D (.lst (acc ++ [y]))) else Nx1 H6)
        else Nx H3) := by
  intro D hD
  have hn := own_new (xs := []) (ds := []) o1 hD .nil
  have hln : (as.map enc).length = as.length := List.length_map ..
  refine ⟨fun i m H' => m = as.length - i ∧ i ≤ as.length ∧ LcP K S1 H1 D ow1 (all2 bs qq ff (as.take i)) H', ⟨as.length, by simp, Nat.zero_le _, hn.1, hn.2.1⟩, ?_⟩
  rintro i m H' ⟨rfl, hi, p⟩
  by_cases hlt : i < as.length
  case neg =>
    have e : i = as.length := by omega
    subst e
    rw [take_all] at p
    have hst := w1.stops H' ⟨_, _, p.f, p.o⟩
    rw [hln] at hst
    have hr : DenR K (S1 ++ [D]) H' (.ref D) (.own ow1.length) := .own (owns_last p.o).choose_spec.1
    obtain ⟨g1, g2, g3⟩ := owns_drop p.f o1 p.o rfl ⟨fun _ h => h, fun _ h => h⟩ hr
    exact .inl ⟨hst, k _ _ g1 g2 g3⟩
  case pos =>
  refine .inr ⟨w1.goes i H' (by rw [hln]; exact hlt) ⟨_, _, p.f, p.o⟩, fun H'' => LcP K S1 H1 D ow1 (all2 bs qq ff (as.take (i + 1))) H'', fun H'' p'' => ⟨as.length - (i + 1), by omega, rfl, hlt, p''⟩, fun x H2 y => ?_⟩
  obtain ⟨ex, y⟩ := w1.yields i H' x H2 (by rw [hln]; exact hlt) ⟨_, _, p.f, p.o⟩ y
  obtain ⟨d, hd, dd⟩ := y _ _ p.f p.o
  obtain ⟨xa, hxa, rfl⟩ := map_some_of hd
  have hmem : xa ∈ as := List.mem_of_getElem? hxa
  have p2 : LcP K S1 H1 D ow1 (all2 bs qq ff (as.take i)) H2 := ⟨p.f.trans p.o (.of ex), p.o.ex ex⟩
  have hts := take_succ_of hxa
  refine ⟨⟨xa, hmem⟩, S1 ++ [D], (p2.f.slots sl).wipe vs, dd, fun σ2 sl2 hw => ⟨hw.trans (wipe_wipe σ vs), ?_⟩⟩
  show (if true = true then l2I as stx bs enc2 K ow1 σ2 H2 _ else LcP K S1 H1 D ow1 (all2 bs qq ff (as.take (i + 1))) H2)
  refine iteT ⟨⟨(xa, _), hmem⟩, S1 ++ [D], sl2, p2.o, fun S3 H3 J1 f3 o3 wd => ?_⟩
  obtain ⟨e3, p3⟩ := p2.on f3 o3
  subst e3
  have wd : WD K (S1 ++ [D]) H3 J1 ((bs xa).map (enc2 xa)) := wd
  have hl2 : ((bs xa).map (enc2 xa)).length = (bs xa).length := List.length_map ..
  have hbl := hb xa hmem
  have hal := hlen (as.take i) (List.take_prefix _ _)
  refine ⟨fun j k H' => k = (bs xa).length - j ∧ j ≤ (bs xa).length ∧ Fwd (S1 ++ [D]) H3 (S1 ++ [D]) H' ∧ LcP K S1 H1 D ow1 (all2 bs qq ff (as.take i) ++ part2 bs qq ff xa j) H', ⟨(bs xa).length, by simp, Nat.zero_le _, .refl _ _, by simpa [part2] using p3⟩, ?_⟩
  rintro j k' H4 ⟨rfl, hj, f4, p4⟩
  by_cases hjt : j < (bs xa).length
  case neg =>
    have e : j = (bs xa).length := by omega
    subst e
    have hst := wd.stops H4 ⟨_, _, f4, p4.o⟩
    rw [hl2] at hst
    refine .inl ⟨hst, ?_⟩
    show LcP K S1 H1 D ow1 (all2 bs qq ff (as.take (i + 1))) H4
    have e5 : all2 bs qq ff (as.take (i + 1)) = all2 bs qq ff (as.take i) ++ part2 bs qq ff xa (bs xa).length := by
      rw [hts]
      unfold all2 part2
      rw [List.flatMap_append, take_all]
      simp
    rw [e5]
    exact p4
  case pos =>
  refine .inr ⟨wd.goes j H4 (by rw [hl2]; exact hjt) ⟨_, _, f4, p4.o⟩, fun H'' => Fwd (S1 ++ [D]) H3 (S1 ++ [D]) H'' ∧ LcP K S1 H1 D ow1 (all2 bs qq ff (as.take i) ++ part2 bs qq ff xa (j + 1)) H'', fun H'' p'' => ⟨(bs xa).length - (j + 1), by omega, rfl, hjt, p''⟩, fun x1 H5 y1 => ?_⟩
  obtain ⟨ex1, y1⟩ := wd.yields j H4 x1 H5 (by rw [hl2]; exact hjt) ⟨_, _, f4, p4.o⟩ y1
  obtain ⟨d1, hd1, dd1⟩ := y1 _ _ f4 p4.o
  obtain ⟨xb, hxb, rfl⟩ := map_some_of hd1
  have hmb : xb ∈ bs xa := List.mem_of_getElem? hxb
  have f5 : Fwd (S1 ++ [D]) H3 (S1 ++ [D]) H5 := f4.trans p4.o (.of ex1)
  have p5 : LcP K S1 H1 D ow1 (all2 bs qq ff (as.take i) ++ part2 bs qq ff xa j) H5 := ⟨p4.f.trans p4.o (.of ex1), p4.o.ex ex1⟩
  refine ⟨⟨(xa, xb), hmem, hmb⟩, S1 ++ [D], (f5.slots (f3.slots sl2)).wipe vs1, dd1, fun σ3 sl3 hw3 => ⟨hw3.trans (wipe_wipe σ2 vs1), ⟨(xa, xb, _), hmem, hmb⟩, S1 ++ [D], sl3, p5.o, fun S6 H6 f6 o6 => ?_⟩⟩
  obtain ⟨e6, p6⟩ := p5.on f6 o6
  subst e6
  have f56 := f5.trans p5.o f6
  have hts2 := take_succ_of hxb
  have hz : (all2 bs qq ff (as.take i) ++ part2 bs qq ff xa j).length < 100000 := by
    rw [List.length_append]
    unfold part2
    rw [List.length_map]
    have h1 := List.length_filter_le (qq xa) ((bs xa).take j)
    rw [List.length_take] at h1
    omega
  show (if qq xa xb = true then _ else _)
  cases hq : qq xa xb with
  | true =>
    refine iteT ⟨⟨(xa, xb, _), hmem, hmb, hq⟩, S1 ++ [D], f6.slots sl3, o6, fun S7 v H7 f7 o7 d7 => ?_⟩
    obtain ⟨e7, p7⟩ := p6.on f7 o7
    subst e7
    cases d7 with
    | d d7 =>
      obtain ⟨acc, h1, h2, h3⟩ := p7.app d7 hz
      refine ⟨acc, h1, h2, ?_, ?_⟩
      · refine (f56.trans p6.o f7).trans p7.o ⟨⟨[], (List.append_nil _).symm, fun _ z => nomatch z⟩, ?_⟩
        intro b u n h
        have hbD : b ≠ D := fun e => n (by rw [e]; exact List.mem_append_right _ (List.mem_singleton.mpr rfl))
        rw [upd_ne hbD]
        exact h
      · have e8 : all2 bs qq ff (as.take i) ++ part2 bs qq ff xa (j + 1) = (all2 bs qq ff (as.take i) ++ part2 bs qq ff xa j) ++ [ff xa xb] := by
          unfold part2
          rw [hts2, List.filter_append, List.map_append, List.filter_cons, if_pos hq, List.append_assoc] <;> rfl
        rw [e8]
        exact h3
  | false =>
    refine iteF ⟨f56, ?_⟩
    have e8 : part2 bs qq ff xa (j + 1) = part2 bs qq ff xa j := by
      unfold part2
      rw [hts2, List.filter_append, List.map_append, List.filter_cons, if_neg (by rw [hq]; decide)]
      simp
    rw [e8]
    exact p6
end
theorem pd_lc2 {α β : Type} (vs1 : List Nat) (as : List α) (enc : α → D) (stx : α → Sta) (bs : α → List β) (enc2 : α → β → D) (sty : α → β → Sta) (qq : α → β → Bool) (ff : α → β → D) (hc : X.calm = true) (hN : X.N.Nodup) (hi : PID X st ow tg iter (as.map enc) ow1) (ok : BlkOk X.N X.env.scope scope own) (hv : ∀ i ∈ vs1, i ∈ own.map (·.2))
    (hlen : ∀ l : List α, l <+: as → (all2 bs qq ff l).length + 40000 ≤ 80000) (hb : ∀ x, x ∈ as → (bs x).length ≤ 40000)
    (hg : ∀ x, x ∈ as → AtBlk X scope fun Y => PGD Y (own.map (·.2)) (wipeD st (own.map (·.2))) (enc x) tg (stx x))
    (hi1 : ∀ x, x ∈ as → ∀ l, AtBlk X scope fun Y => PID Y (stx x) (ow1 ++ [.l l]) tg1 iter1 ((bs x).map (enc2 x)) (ow1 ++ [.l l]))
    (hg1 : ∀ x y, x ∈ as → y ∈ bs x → AtBlk X scope fun Y => PGD Y vs1 (wipeD (stx x) vs1) (enc2 x y) tg1 (sty x y))
    (ht1 : ∀ x y, x ∈ as → y ∈ bs x → ∀ l, AtBlk X scope fun Y => PTsD Y (sty x y) (ow1 ++ [.l l]) ifs1 (qq x y))
    (he : ∀ x y, x ∈ as → y ∈ bs x → qq x y = true → ∀ l, AtBlk X scope fun Y => PD Y (sty x y) (ow1 ++ [.l l]) elt (.d (ff x y)) (ow1 ++ [.l l])) (hs : ∀ x, foldedSetIterable iter X.env x = pure x := by intro _; rfl) (hs1 : ∀ env x, foldedSetIterable iter1 env x = pure x := by intro _ _; rfl) :
    PD X st ow (.ListComp elt [⟨tg, iter, [], 0⟩, ⟨tg1, iter1, ifs1, 0⟩] scope pos) (.d (.lst (all2 bs qq ff as))) ow1 :=
  (pe_lc2 (g := lG as enc stx X.K (own.map (·.2)) st) (tt := tYes) (wi1 := l2I as stx bs enc2 X.K ow1) (g1 := l2G as stx bs enc2 sty X.K vs1) (tt1 := l2T as bs sty qq X.K ow1) (te := l2E as bs sty qq ff X.K ow1) hc hN hi ok hv (fun s H C cl fp => pg_ex fun x => hg x.1 x.2 s H C cl fp) (fun s H C cl fp => pts_nil)
    (fun s H C cl fp => pi_ex fun x => hi1 x.1.1 x.2 x.1.2 s H C cl fp) (fun s H C cl fp => pg_ex fun x => hg1 x.1.1 x.1.2 x.2.1 x.2.2 s H C cl fp) (fun s H C cl fp => pts_ex fun x => ht1 x.1.1 x.1.2.1 x.2.1 x.2.2 x.1.2.2 s H C cl fp)
    (fun s H C cl fp => pe_ex fun x => he x.1.1 x.1.2.1 x.2.1 x.2.2.1 x.2.2.2 x.1.2.2 s H C cl fp) hs hs1).imp fun σ H Q ⟨S, sl, o, q⟩ => ⟨S, sl, o, fun S1 H1 J f1 o1 w1 => lc2_read (vs := own.map (·.2)) as enc stx bs enc2 sty qq ff vs1 w1 (f1.slots sl) o1 hlen hb fun v H' g1 g2 g3 => q S1 v H' (f1.trans o1 g1) g2 (.d g3)⟩
end
end Bl
set_option Elab.async false
set_option linter.all false
set_option maxRecDepth 100000
set_option maxHeartbeats 4000000
/-! Bl7: enumerate over a tuple; further operators and built-ins over data -/
namespace Bl
open PySem PySem.Spec PyProof.Rows L2
theorem enum_new1 {v : Value} {o : Obj} {HH : Heap → Prop} (B : Begins v o HH) :
    Meets (Builtin.«enumerate.__new__» ⟨[.type "enumerate", v], []⟩) (fun _ R s => HH s.heap ∧
      R (.ok (.ret (.ref (s.heap.push o).objs.size))) { s with heap := (s.heap.push o).push { cls := .type "enumerate", data := .fields #[.none, .bool false, .ref s.heap.objs.size, rawInt 0, .none, .none] } }) :=
  .of_wp fun prog w A R s h => by
    obtain ⟨hp, gg, dd, tk, os⟩ := s
    obtain ⟨h1, h⟩ := h
    have hsub := sub_enumerate
    have it1 : ∀ {A' : Around} {E : Value → Shared → Prop} {Q : Value → Shared → Prop}, Q (.ref hp.objs.size) ⟨hp.push o, gg, dd, tk, os⟩ → wpAny (model prog w) A' (pyIter v) Q E ⟨hp, gg, dd, tk, os⟩ := fun q => B.iter prog w _ _ _ _ h1 q
    wp_walk using it1
    refine wpAny_stack_any fun st => wpAny_pure ?_
    split
    · rename_i c _ _ _ _ _
      cases (c == Value.type "enumerate") <;> (wp_walk using it1; exact ⟨_, rfl, h⟩)
    · wp_walk using it1
      exact ⟨_, rfl, h⟩
theorem call_enum1 {prog : Program} {w : World} {A : Around} {E : Value → Shared → Prop} {s : Shared} {v : Value} {o : Obj} {HH : Heap → Prop} {Q : Value → Shared → Prop} (B : Begins v o HH) (h1 : HH s.heap)
    (h : ∀ h', IsEnum h' (s.heap.objs.size + 1) s.heap.objs.size 0 .none → h'.get? s.heap.objs.size = some o → (∀ b u, s.heap.get? b = some u → h'.get? b = some u) → Q (.ref (s.heap.objs.size + 1)) { s with heap := h' }) :
    wpAny (model prog w) A (call (.type "enumerate") [v]) Q E s := by
  refine callType_new F.called_enumerate (by decide) (F.typeCall_enumerate_1 _) (F.newCall_enumerate_1 _) (fun obj => F.args_object_init_2 obj _) F.entry_enumerate_new (enum_new1 B) ⟨h1, ?_⟩
  have hz : (s.heap.push o).objs.size = s.heap.objs.size + 1 := Heap.size_push ..
  show _ ∧ _
  rw [hz]
  have hh := Heap.get?_push_size (s.heap.push o) (o := { cls := .type "enumerate", data := .fields #[.none, .bool false, .ref s.heap.objs.size, rawInt 0, .none, .none] }) rfl
  rw [hz] at hh
  exact ⟨⟨_, hh, rfl⟩, h _ hh (Heap.get?_push_of_some _ (Heap.get?_push_size _ B.free)) fun b u x => Heap.get?_push_of_some _ (Heap.get?_push_of_some _ x)⟩
theorem tup_is {h : Heap} {a : Addr} {its : Array Value} (p : IsTup h a its) : h.IsTuple a its := by
  obtain ⟨o, h1, h2, n, h3⟩ := p
  exact ⟨o, h1, h2, n, h3⟩
/-- enumerate of the tuple at a -/
def Iet (K : PySem.W.Frag) (a : Addr) : It :=
  ⟨fun i H => ∃ (xs : List V) (x : V), SqT K H a xs ∧ xs[i]? = some x, fun i H v H' => ∃ T x, v = .ref T ∧ H T = none ∧ H' = upd H T (.tup [.int (i : Nat), x]) ∧ ∀ xs, SqT K H a xs → xs[i]? = some x, fun i H => ∃ xs : List V, SqT K H a xs ∧ xs.length = i⟩
theorem turn_enumT {P : Program} {w : World} {K : PySem.W.Frag} {elts : List Expr} {kk : Nat} {tpos : Pos} (a e it : Addr) :
    Turn P w K (.Tuple elts kk tpos) (Iet K a) [e, it] e (fun i h => (∃ old, IsEnum h e it ((i : Nat) : Int) old) ∧ h.IsTupleIter it a i ∧ e ≠ it ∧ e ≠ a ∧ it ≠ a) where
  mem := by simp
  obj := fun i h st b hb => by
    obtain ⟨⟨old, he⟩, ⟨o, ho, hc, hd⟩, _⟩ := st
    have e' : b = e ∨ b = it := by simpa using hb
    rcases e' with z | z
    · rw [z]; exact ⟨_, he, fun v q => nomatch q⟩
    · rw [z]; exact ⟨o, ho, fun v q => by rw [hd] at q; cases q⟩
  keep := fun i h h' st k => let ⟨⟨old, he⟩, hi, hne⟩ := st; ⟨⟨old, k e (by simp) _ he⟩, hi.at fun o q => k it (by simp) o q, hne⟩
  item := by
    intro X hP hw hK hc i pins s σ H E I hf st hg
    subst hP hw hK
    obtain ⟨⟨old, he⟩, hit, hne, hea, hia⟩ := st
    obtain ⟨xs, x, hq, hx⟩ := hg
    obtain ⟨its, rv, p, hz⟩ := I.tuple hq
    obtain ⟨u, hu, ru⟩ := rv.get hx
    have hel : e < s.heap.objs.size := Heap.lt_size he
    have hil : it < s.heap.objs.size := by obtain ⟨_, q, _⟩ := hit; exact Heap.lt_size q
    have hi : i < its.toArray.size := by
      have := (List.getElem?_eq_some_iff.mp hu).1
      simpa using this
    have D := Draws.tuple (prog := X.prog) (w := X.w) (A := X.A.in1) (I.ok.hd hc) it a (Ne.symm hia) its.toArray
    refine wpAny_pyNext_enum_itemD D he ⟨hit, tup_is p⟩ hi hne (by simp [hne, hea]) fun y h' tk hy ho hst hT hsz hk => ?_
    have hyu : y = u := by
      have h1 : its.toArray[i]? = some y := hy
      rw [show its.toArray[i]? = some u by simpa using hu] at h1
      exact (Option.some.inj h1).symm
    subst hyu
    refine ⟨_, rfl, wpAny_letOwnedTupleGo_enum (s := { s with heap := h', toks := tk + 1 }) ho fun h'' he' sb => ?_⟩
    have hT2 : h''.get? s.heap.objs.size = some { cls := .type "tuple", data := .seq #[.int i tk, y] } := (sb.2 _ (Nat.ne_of_gt hel)).trans hT
    have new : ObjOk X.prog X.w (upd H s.heap.objs.size (.tup [.int (i : Nat), x])) h'' s.heap.objs.size (.tup [.int (i : Nat), x]) :=
      ⟨by show 2 ≤ sizeLine; decide, [.int i tk, y], .cons ⟨_, rfl⟩ (.cons ru .nil), ⟨_, hT2, rfl, _, rfl⟩⟩
    have I1 : Inv X pins σ (upd H s.heap.objs.size (.tup [.int (i : Nat), x])) { s with heap := h'', toks := tk + 1 } :=
      I.turnedNew (ch := [e, it]) (fun b ob hb q => (sb.2 b (fun z => hb (by simp [z]))).trans (hk b ob (fun z => hb (by simp [z])) (fun z => hb (by simp [z])) q)) hf (Nat.le_refl _) new
    refine ⟨.ref s.heap.objs.size, _, I1, rfl, ⟨_, x, rfl, I.hok.fresh (Nat.le_refl _), rfl, fun ys hy => by rw [I.tuple_inj hy hq]; exact hx⟩, ⟨⟨y, ?_⟩, hst.1.at fun o q => (sb.2 it (Ne.symm hne)).trans q, hne, hea, hia⟩, fun b hb => ?_⟩
    · have e1 : ((i + 1 : Nat) : Int) = (i : Int) + 1 := by omega
      rw [e1]; exact he'
    · have hb' : b < s.heap.objs.size := by
        have e' : b = e ∨ b = it := by simpa using hb
        rcases e' with z | z
        · rw [z]; exact hel
        · rw [z]; exact hil
      rw [upd_ne (Nat.ne_of_lt hb')]
      exact (hf b hb).1
  done := by
    intro X hP hw hK hc i pins s σ H E I hf st hg
    subst hP hw hK
    obtain ⟨⟨old, he⟩, hit, hne, hea, hia⟩ := st
    obtain ⟨xs, hq, hx⟩ := hg
    obtain ⟨its, rv, p, hz⟩ := I.tuple hq
    obtain ⟨f0, f1, f2, f3, f4, f5⟩ := hf it (by simp)
    have hl := rv.length
    have D := Draws.tuple (prog := X.prog) (w := X.w) (A := X.A.in1) (I.ok.hd hc) it a (Ne.symm hia) its.toArray
    have hn : its.toArray.size = i := by rw [List.size_toArray]; omega
    subst hn
    exact wpAny_pyNext_enum_endD D he ⟨hit, tup_is p⟩ fun h' eb => ⟨rfl, I.turned (t' := s.toks) (fun b o hb e => eb b o hb e) f0 f1 f3 f4 f5⟩
  self := fun A i s Q E st h => let ⟨⟨_, he⟩, _⟩ := st; wpAny_pyIter_enum he h

def iEnT (K : PySem.W.Frag) (ta : TA) : TI := fun σ H R => ta σ H fun vs H1 => ∃ a xs, vs = [.ref a] ∧ SqT K H1 a xs ∧ R (Iet K a) H1
theorem pi_enumT {X : Cx} {e : Expr} {ta : TA} {p pos tpos : Pos} {elts : List Expr} {kk : Nat} (hg : Gl X "enumerate") (hm : X.mg "enumerate" = none) (ha : PA X [e] ta) (hs : starEach [e] X.env = [(false, eval e X.env)] := by rfl) :
    PI X (.Tuple elts kk tpos) (.Call (.Name "enumerate" p) [e] [] pos) (iEnT X.K ta) := by
  refine ⟨fun pins s σ H R I h => ?_⟩
  refine Call_ (ld_blt I hg hm boot_enumerate (PyProof.Rows.callWith_type1 (thn (ha.run pos pins s σ H _ I h) fun us s1 ⟨vs, H1, I1, r1, q1⟩ => ?_) hs rfl))
  obtain ⟨a, xs, ex, hq, q⟩ := q1
  subst ex
  cases r1 with
  | cons r rr =>
    cases rr
    cases r
    obtain ⟨its, rv, p', hz⟩ := I1.tuple hq
    have al : a < s1.heap.objs.size := p'.lt
    have n1 : s1.heap.objs.size + 1 ≠ a := Nat.ne_of_gt (Nat.lt_succ_of_lt al)
    have n2 : s1.heap.objs.size ≠ a := Nat.ne_of_gt al
    refine call_enum1 (begins_tuple a its.toArray) (tup_is p') fun h' he hit hk => wpAny_pyIter_enum he ?_
    have I2 : Inv X pins σ H1 { s1 with heap := h' } := I1.kept (t' := s1.toks) hk
    refine ⟨s1.heap.objs.size + 1, [s1.heap.objs.size + 1, s1.heap.objs.size], _, _, H1, rfl, I2, turn_enumT a (s1.heap.objs.size + 1) s1.heap.objs.size, ⟨⟨.none, he⟩, ⟨_, hit, rfl, rfl⟩, Nat.succ_ne_self _, n1, n2⟩, fun b hb => ?_, q⟩
    have e' : b = s1.heap.objs.size + 1 ∨ b = s1.heap.objs.size := by simpa using hb
    have hle : s1.heap.objs.size ≤ b := by
      rcases e' with z | z
      · rw [z]; exact Nat.le_add_right _ _
      · rw [z]; exact Nat.le_refl _
    exact I1.fpOk hle (I1.hok.fresh hle)
theorem wd_enumT {K : PySem.W.Frag} {S : List Addr} {H : Hp} {a : Addr} {ds : List D} {dd : D} (h : Den K S H (.ref a) dd) (ht : tupL dd = some ds) : WD K S H (Iet K a) (enumD ds) where
  goes := fun i H2 hi ⟨S2, ow2, f, o⟩ => by
    rw [enumD_len] at hi
    obtain ⟨a', xs, e, h1, h2⟩ := (f.den h).of_tup ht
    cases e
    obtain ⟨x, h3, _⟩ := Dens.get h2 (List.getElem?_eq_getElem hi)
    exact ⟨xs, x, h1, h3⟩
  stops := fun H2 ⟨S2, ow2, f, o⟩ => by
    rw [enumD_len]
    obtain ⟨a', xs, e, h1, h2⟩ := (f.den h).of_tup ht
    cases e
    exact ⟨xs, h1, Dens.length h2⟩
  yields := fun i H2 x H3 hi _ y => by
    obtain ⟨T, x1, rfl, hT, rfl, y⟩ := y
    refine ⟨Evl.Ex.new hT, fun S2 ow2 f o => ?_⟩
    obtain ⟨a', xs, e, h1, h2⟩ := (f.den h).of_tup ht
    cases e
    obtain ⟨d, h3, h4⟩ := Dens.get' h2 (y xs h1)
    exact ⟨_, enumD_get h3, new_par o hT (.cons (.int _) (.cons h4 .nil))⟩

/-! ### lists and tuples alike -/
def sqD : Bool → List D → D
  | true, l => .tup l
  | false, l => .lst l
section
variable {X : Cx} {e a b c o tg iter elt : Expr} {es : List Expr} {st st1 st2 : Sta} {ow ow1 ow2 ow3 : List OB} {r : R} {rs : List R} {d x y z : D} {ds xs : List D} {pos p p2 : Pos} {lo hi : Option Expr} {ilo ihi : Option Int} {t : Bool}
theorem pid_enumT {elts : List Expr} {kk : Nat} {tpos : Pos} {dd : D} (hm : X.mg "enumerate" = none) (ha : PADd X st ow [e] [dd] ow1) (ht : tupL dd = some ds := by rfl) (hg : Gl X "enumerate" := by rfl) (hs : starEach [e] X.env = [(false, eval e X.env)] := by rfl) :
    PID X st ow (.Tuple elts kk tpos) (.Call (.Name "enumerate" p) [e] [] pos) (enumD ds) ow1 :=
  (pi_enumT hg hm ha hs).imp fun σ H Q ⟨S, sl, o, k⟩ => ⟨S, sl, o, fun S1 vs H1 f1 o1 d1 => by
    obtain ⟨v, rfl, g⟩ := dens1 (densOf d1)
    obtain ⟨a, xs, rfl, h1, h2⟩ := g.of_tup ht
    exact ⟨a, xs, rfl, h1, k S1 H1 _ f1 o1 (wd_enumT g ht)⟩⟩
theorem pid_enumS {elts : List Expr} {kk : Nat} {tpos : Pos} (hm : X.mg "enumerate" = none) (ha : PADd X st ow [e] [sqD t ds] ow1) (hg : Gl X "enumerate" := by rfl) (hs : starEach [e] X.env = [(false, eval e X.env)] := by rfl) :
    PID X st ow (.Tuple elts kk tpos) (.Call (.Name "enumerate" p) [e] [] pos) (enumD ds) ow1 := by
  cases t with
  | true => exact pid_enumT hm ha rfl hg hs
  | false => exact pid_enumL hm ha hg hs
theorem pid_sq (h : PD X st ow e (.d (sqD t ds)) ow1) : PID X st ow tg e ds ow1 := by
  cases t with
  | true => exact pid_tup h rfl
  | false => exact pid_list h
theorem pid_eq {ys : List D} (h : PID X st ow tg e xs ow1) (hx : xs = ys) : PID X st ow tg e ys ow1 := hx ▸ h
theorem pd_eqD {d' : D} (h : PD X st ow e (.d d) ow1) (hx : d = d') : PD X st ow e (.d d') ow1 := hx ▸ h
theorem ptd_eqB {q q' : Bool} (h : PTD X st ow e q ow1) (hx : q = q') : PTD X st ow e q' ow1 := hx ▸ h
theorem pd_slS (he : PD X st ow e (.d (sqD t ds)) ow1) (h1 : POD X st ow1 lo ilo) (h2 : POD X st ow1 hi ihi) : PD X st ow (.Subscript e (.Slice lo hi none p2) pos) (.d (sqD t (cutD ds ilo ihi))) ow1 := by
  cases t with
  | true => exact pd_slT he h1 h2
  | false => exact pd_slL he h1 h2
theorem pd_lenS (hm : X.mg "len" = none) (ha : PADd X st ow [e] [sqD t ds] ow1) (hg : Gl X "len" := by rfl) (he : starEach [e] X.env = [(false, eval e X.env)] := by rfl) : PD X st ow (.Call (.Name "len" p) [e] [] pos) (.d (.int (ds.length : Int))) ow1 := by
  cases t with
  | true => exact pd_lenT hm ha rfl hg he
  | false => exact pd_lenL hm ha hg he
/-- t + u of tuples -/
theorem pd_catT {es' : List D} (ha : PD X st ow a (.d (.tup ds)) ow1) (hb : PD X st ow1 b (.d (.tup es')) ow2) (hl : ds.length + es'.length ≤ 100000) : PD X st ow (.BinOp a .Add b pos) (.d (.tup (ds ++ es'))) ow2 :=
  pd_op op_catA (fun S H ow vx vy Q o hx hy q => by
    obtain ⟨a, xs, rfl, h1, h2⟩ := hx.of_tup rfl
    obtain ⟨b, ys, rfl, h3, h4⟩ := hy.of_tup rfl
    have l1 := Dens.length h2
    have l2 := Dens.length h4
    refine ⟨a, b, xs, ys, rfl, rfl, h1, h3, by rw [l1, l2]; exact Evl.sz_of hl, fun e => ?_, fun _ e => ?_, fun _ _ p hp => q _ _ (Evl.Ex.new hp) (new_tup o hp (Dens.append h2 h4))⟩
    · subst e
      have e2 : ds = [] := List.length_eq_zero_iff.mp l1.symm
      subst e2
      exact q _ _ (Evl.Ex.refl H) hy
    · subst e
      have e2 : es' = [] := List.length_eq_zero_iff.mp l2.symm
      subst e2
      rw [List.append_nil] at q
      exact q _ _ (Evl.Ex.refl H) hx) ha hb
theorem pd_catN {es' : List D} (ha : PD X st ow a (.d (.tupN ds)) ow1) (hb : PD X st ow1 b (.d (.tupN es')) ow2) (hl : ds.length + es'.length ≤ 100000) : PD X st ow (.BinOp a .Add b pos) (.d (.tupN (ds ++ es'))) ow2 :=
  pd_op op_catF (fun S H ow vx vy Q o hx hy q => by
    obtain ⟨a, xs, rfl, h1, h2⟩ := hx.of_tup rfl
    obtain ⟨b, ys, rfl, h3, h4⟩ := hy.of_tup rfl
    have l1 := Dens.length h2
    have l2 := Dens.length h4
    refine ⟨a, b, xs, ys, rfl, rfl, h1, h3, by rw [l1, l2]; exact Evl.sz_of hl, fun e => ?_, fun _ e => ?_, fun _ _ p ob hd hp => q _ _ (Evl.Ex.new hp) (new_tupN o hp hd (Dens.append h2 h4))⟩
    · subst e
      have e2 : ds = [] := List.length_eq_zero_iff.mp l1.symm
      subst e2
      exact q _ _ (Evl.Ex.refl H) hy
    · subst e
      have e2 : es' = [] := List.length_eq_zero_iff.mp l2.symm
      subst e2
      rw [List.append_nil] at q
      exact q _ _ (Evl.Ex.refl H) hx) ha hb
end
/-! ### bools added up -/
theorem int_add_bb (a b : Bool) : Gives (Builtin.«int.__add__» ⟨[.bool a, .bool b], []⟩) (.int ((if a = true then (1 : Int) else 0) + (if b = true then (1 : Int) else 0))) :=
  .of_wp fun M A E s Q h => by
    obtain ⟨hp, gg, dd, tk, os⟩ := s
    wp_walk
    exact ⟨_, rfl, h⟩
theorem add_bb {prog : Program} {w : World} {A : Around} {E : Value → Shared → Prop} {s : Shared} {Q : Value → Shared → Prop} {a b : Bool} (h : Q (.int ((if a = true then (1 : Int) else 0) + (if b = true then (1 : Int) else 0)) s.toks) { s with toks := s.toks + 1 }) : wpAny (model prog w) A (binaryOp .Add (.bool a) (.bool b)) Q E s :=
  binaryOp_gives (op := .Add) (T := "bool") (show Shared.TypeIs s (.bool a) "bool" from rfl) (show Shared.TypeIs s (.bool b) "bool" from rfl) (by first | exact F.fills_bool_add | skip) F.slot_bool_add F.entry_int_add (F.args_int_add_2 _ _) (int_add_bb a b) trivial h
def b2 (a : Bool) : Int := if a = true then 1 else 0
section
variable {X : Cx} {e a b c o tg iter elt : Expr} {es : List Expr} {st st1 st2 : Sta} {ow ow1 ow2 ow3 : List OB} {r : R} {rs : List R} {d x y z : D} {ds xs : List D} {pos p p2 apos cpos : Pos} {i j : Int} {u v : Bool} {ns : List Int}
theorem op_bb : OpR X (binaryOp .Add) (fun x y H Q => ∃ i j, x = .bl i ∧ y = .bl j ∧ Q (.int (b2 i + b2 j)) H) := by
  intro pins s σ H x y v u Q I rx ry h
  obtain ⟨i, j, rfl, rfl, q⟩ := h
  cases rx
  cases ry
  exact add_bb ⟨.int (b2 i + b2 j), H, I.tok _, ⟨_, rfl⟩, q⟩
theorem pd_addBB (ha : PD X st ow a (.d (.bl u)) ow1) (hb : PD X st ow1 b (.d (.bl v)) ow2) : PD X st ow (.BinOp a .Add b pos) (.d (.int (b2 u + b2 v))) ow2 :=
  pd_op op_bb (fun S H ow vx vy Q o hx hy q => ⟨u, v, hx.of_bl, hy.of_bl, q _ H (Evl.Ex.refl H) (.int _)⟩) ha hb
theorem pd_addIB (ha : PD X st ow a (.d (.int i)) ow1) (hb : PD X st ow1 b (.d (.bl v)) ow2) : PD X st ow (.BinOp a .Add b pos) (.d (.int (i + b2i v))) ow2 :=
  pd_op op_add_ib (fun S H ow vx vy Q o hx hy q => ⟨i, v, hx.of_int, hy.of_bl, q _ H (Evl.Ex.refl H) (.int _)⟩) ha hb

/-! ### methods of built-in types -/
def RM (K : PySem.W.Frag) (rr : V → List V → Hp → VK → Prop) (x : D) (ds : List D) (z : D) : Prop := ∀ S H ow vx vs (Q : VK), Owns K S H ow → Den K S H vx x → Dens K S H vs ds → (∀ v H', Evl.Ex H H' → Den K S H' v z → Q v H') → rr vx vs H Q
theorem tyN_t {K : PySem.W.Frag} {S : List Addr} {H : Hp} {v : V} (h : Den K S H v (.tupN ds)) : tyN K v H := by
  cases h with
  | tupN h r =>
    rcases h with ⟨_, o, hd, h⟩ | h
    · exact ⟨_, _, rfl, .inl ⟨o, hd, h⟩⟩
    · exact ⟨_, _, rfl, .inr h⟩
theorem pd_bmT {id : String} {nm : Str} {l : List D} {rr : V → List V → Hp → VK → Prop} (slot : Slot "tuple" nm id) (hty : typeOf (.builtin id) = pure (.type "method_descriptor")) (hm : MtR X id rr) (hr : RM X.K rr (.tupN l) ds z) (ho : PD X st ow o (.d (.tupN l)) ow1) (ha : PADd X st ow1 (e :: es) ds ow2)
    (h1 : attributeBase o nm X.env (eval o X.env) = eval o X.env := by rfl)
    (h2 : ((backTo cpos (starEach (e :: es) X.env)).all (fun x => !x.1) && (backToKw cpos (keywordEach [] X.env)).all (fun x => x.1.isSome)
      && decide ((e :: es).length + ([] : List Keyword).length + (if ([] : List Keyword).isEmpty then 0 else 1) < 30)) = true := by rfl)
    (h3 : (apos.endLine == cpos.line) = true := by rfl) (h4 : starEach (e :: es) X.env = (false, eval e X.env) :: starEach es X.env := by rfl) (h5 : (backTo cpos (starEach es X.env)).any (·.1) = false := by rfl) :
    PD X st ow (.Call (.Attribute o nm apos) (e :: es) [] cpos) (.d z) ow2 :=
  (pe_bmN PySem.F.plainAttrs_tuple slot hty hm ho ha h1 h2 h3 h4 h5).imp fun σ H Q ⟨S, sl, o, k⟩ => ⟨S, sl, o, fun S1 v H1 f1 o1 d1 => by
    cases d1 with
    | d d1 => exact ⟨tyN_t d1, S1, f1.slots sl, o1, fun S2 vs H2 f2 o2 d2 => hr S2 H2 ow2 v vs Q o2 (f2.den d1) (densOf d2) fun v H' ex dd => k S2 v H' (f1.trans o1 (f2.trans o2 (.of ex))) (o2.ex ex) (.d dd)⟩⟩
theorem mt_tcount : MtR X "tuple.count" (fun x xs H Q => ∃ (p : Addr) (ns : List Int) (k : Int), x = .ref p ∧ xs = [.int k] ∧ SqT X.K H p (ns.map V.int) ∧ Q (.int (ns.count k : Nat)) H) := by
  intro pins s σ H x xs v us Q I rx rxs h
  obtain ⟨p, ns, k, rfl, rfl, hs, q⟩ := h
  cases rx
  obtain ⟨u, rfl, ru⟩ := rxs.one
  obtain ⟨t, rfl⟩ := ru
  obtain ⟨its, rv, pl, hz⟩ := I.tuple hs
  obtain ⟨⟨cls, dd, dt, sl⟩, ho, hc, n, hd⟩ := pl
  simp only at hc hd
  subst hc hd
  have hi := ints_of_vals rv
  refine call_meets PySem.F.slot_tuple_count ⟨_, ho, rfl⟩ PySem.F.entry_tuple_count (PySem.F.args_tuple_count_2 _ _)
    (SeqAt.tuple_countAt p its.toArray n dd sl (.int k t) (eqk k)) ⟨ho, fun y hy => (eqk_gives hi y (by simpa using hy)).at _ _, ?_⟩
  have ec : its.toArray.toList.countP (eqk k) = ns.count k := eqk_count hi
  refine ⟨.int (ns.count k : Nat), H, I.tok _, ⟨s.toks, ?_⟩, q⟩
  show Value.int ((its.toArray.toList.countP (eqk k) : Nat) : Int) s.toks = Value.int ((ns.count k : Nat) : Int) s.toks
  rw [ec]
theorem flat_ints (ys : List Int) : (ys.map V.int).all flatV = true := by
  rw [List.all_eq_true]
  intro v hv
  obtain ⟨y, _, rfl⟩ := List.mem_map.mp hv
  rfl
theorem mt_tindexI : MtR X "tuple.index" (fun x xs H Q => ∃ p, ∃ ys : List Int, ∃ z j, x = .ref p ∧ xs = [.int z] ∧ SqT X.K H p (ys.map V.int) ∧ ys[j]? = some z ∧ (∀ m, m < j → ys[m]? ≠ some z) ∧ Q (.int (j : Nat)) H) := by
  intro pins s σ H x xs v us Q I rx rs h
  obtain ⟨p, ys, z, j, rfl, rfl, hq, hy, hno, q⟩ := h
  cases rx
  obtain ⟨u, rfl, t, rfl⟩ := vals1 rs
  obtain ⟨its, rr, pl, hz⟩ := I.tuple hq
  obtain ⟨⟨cls, dd, dt, sl⟩, ho, hc, n, hd⟩ := pl
  simp only at hc hd
  subst hc
  subst hd
  have hl : its.toArray.size = ys.length := by rw [List.size_toArray, ← rr.length, List.length_map]
  have hj : j < its.toArray.size := by rw [hl]; exact (List.getElem?_eq_some_iff.mp hy).1
  have hat : ∀ (m : Nat) (hm : m < its.toArray.size), ∃ y t', ys[m]? = some y ∧ its.toArray[m] = Value.int y t' := fun m hm => by
    have hm' : m < ys.length := by rw [← hl]; exact hm
    obtain ⟨w, hw, t', hw'⟩ := rr.get (i := m) (x := .int ys[m]) (by simp [hm'])
    refine ⟨ys[m], t', List.getElem?_eq_getElem hm', ?_⟩
    have e1 := (List.getElem?_eq_some_iff.mp hw).2
    rw [← hw', ← e1]
    simp
  refine call_meets PySem.F.slot_tuple_index ⟨_, ho, rfl⟩ PySem.F.entry_tuple_index (PySem.F.args_tuple_index_2 _ _) (TI.tuple_indexAt p its.toArray n dd sl (.int z t) (eqU (.int z)) j hj ?_ ?_)
    ⟨ho, fun w hw => mem_eqAt (x := .int z) ⟨t, rfl⟩ rfl rr (flat_ints ys) w (by simpa using hw), ⟨.int (j : Nat), H, I.tok _, ⟨_, rfl⟩, q⟩⟩
  · obtain ⟨y, t', h1, h2⟩ := hat j hj
    rw [hy] at h1
    cases h1
    rw [h2]
    show (z == z) = true
    exact beq_self_eq_true z
  · intro m hm hmj
    obtain ⟨y, t', h1, h2⟩ := hat m hm
    rw [h2]
    show (y == z) = false
    refine beq_eq_false_iff_ne.mpr fun e1 => hno m hmj ?_
    rw [h1, e1]
end
end Bl
set_option Elab.async false
set_option linter.all false
set_option maxRecDepth 100000
set_option maxHeartbeats 4000000
namespace Bl
open PySem PySem.Spec PyProof.Rows L2
section
variable {X : Cx} {e a b c o tg iter elt : Expr} {es : List Expr} {st st1 st2 : Sta} {ow ow1 ow2 ow3 : List OB} {r : R} {rs : List R} {d x y z dd : D} {ds xs l : List D} {pos p p2 apos cpos : Pos} {i j : Int} {u v : Bool} {ns ms : List Int} {k : Nat}
/-! ### t.count(n), t.index(n) -/
theorem pd_tcount (ho : PD X st ow o (.d (.tupN (ns.map D.int))) ow1) (ha : PADd X st ow1 [e] [.int i] ow2) (h1 : attributeBase o "count" X.env (eval o X.env) = eval o X.env := by rfl) (h3 : (apos.endLine == cpos.line) = true := by rfl) (h4 : starEach [e] X.env = [(false, eval e X.env)] := by rfl) :
    PD X st ow (.Call (.Attribute o "count" apos) [e] [] cpos) (.d (.int (ns.count i : Nat))) ow2 :=
  pd_bmT PySem.F.slot_tuple_count PySem.F.type_tuple_count mt_tcount (fun S H ow vx vs Q o hx hv q => by
    obtain ⟨v, rfl, g⟩ := dens1 hv
    obtain ⟨a, xs, rfl, h1, h2⟩ := hx.of_tup rfl
    have e1 := Dens.ints h2
    subst e1
    exact ⟨a, ns, i, rfl, by rw [Den.of_int g], h1, q _ _ (Evl.Ex.refl H) (.int _)⟩) ho ha h1 (by rw [h4] <;> rfl) h3 h4 rfl
theorem pd_tindex (ho : PD X st ow o (.d (.tupN (ns.map D.int))) ow1) (ha : PADd X st ow1 [e] [.int i] ow2) (hk : ns[k]? = some i) (hn : ∀ m, m < k → ns[m]? ≠ some i) (h1 : attributeBase o "index" X.env (eval o X.env) = eval o X.env := by rfl) (h3 : (apos.endLine == cpos.line) = true := by rfl) (h4 : starEach [e] X.env = [(false, eval e X.env)] := by rfl) :
    PD X st ow (.Call (.Attribute o "index" apos) [e] [] cpos) (.d (.int (k : Nat))) ow2 :=
  pd_bmT PySem.F.slot_tuple_index PySem.F.type_tuple_index mt_tindexI (fun S H ow vx vs Q o hx hv q => by
    obtain ⟨v, rfl, g⟩ := dens1 hv
    obtain ⟨a, xs, rfl, h1, h2⟩ := hx.of_tup rfl
    have e1 := Dens.ints h2
    subst e1
    exact ⟨a, ns, i, k, rfl, by rw [Den.of_int g], h1, hk, hn, q _ _ (Evl.Ex.refl H) (.int _)⟩) ho ha h1 (by rw [h4] <;> rfl) h3 h4 rfl
/-! ### == of tuples, lists of ints -/
theorem dp_ints {K : PySem.W.Frag} {H : Hp} : ∀ ns : List Int, DpAll K H (ns.map V.int) (ns.map PyData.int)
  | [] => .nil
  | n :: ns => .cons (.int n) (dp_ints ns)
theorem eqv_ints : ∀ ns ms : List Int, PyData.eqvAll (ns.map PyData.int) (ms.map PyData.int) = decide (ns = ms)
  | [], [] => by rfl
  | [], m :: ms => by rfl
  | n :: ns, [] => by rfl
  | n :: ns, m :: ms => by
    show (PyData.eqv (.int n) (.int m) && PyData.eqvAll (ns.map PyData.int) (ms.map PyData.int)) = _
    rw [eqv_ints ns ms]
    show ((n == m) && decide (ns = ms)) = decide (n :: ns = m :: ms)
    by_cases h : n = m <;> simp [h]
theorem depth_ints : ∀ ns : List Int, PyData.depthAll (ns.map PyData.int) ≤ 1
  | [] => by simp [PyData.depthAll]
  | n :: ns => by
    have := depth_ints ns
    simp only [List.map_cons, PyData.depthAll, PyData.depth]
    omega
theorem lay_ints : ∀ ns : List Int, PyData.canLayAll0 (ns.map PyData.int) = true
  | [] => by simp [PyData.canLayAll0]
  | n :: ns => by
    have := lay_ints ns
    simp only [List.map_cons, PyData.canLayAll0, PyData.canLay0, this, Bool.and_true]
theorem shaped_t (ns : List Int) : SeqAt.shaped (.tuple (ns.map PyData.int)) = true := by
  have := depth_ints ns
  have h1 : PyData.canLay0 (.tuple (ns.map PyData.int)) = true := lay_ints ns
  have h2 : PyData.depth (.tuple (ns.map PyData.int)) = PyData.depthAll (ns.map PyData.int) + 1 := rfl
  unfold SeqAt.shaped
  rw [h1, h2]
  simp only [Bool.true_and, decide_eq_true_eq]
  omega
theorem shaped_l (ns : List Int) : SeqAt.shaped (.list (ns.map PyData.int)) = true := by
  have := depth_ints ns
  have h1 : PyData.canLay0 (.list (ns.map PyData.int)) = true := lay_ints ns
  have h2 : PyData.depth (.list (ns.map PyData.int)) = PyData.depthAll (ns.map PyData.int) + 1 := rfl
  unfold SeqAt.shaped
  rw [h1, h2]
  simp only [Bool.true_and, decide_eq_true_eq]
  omega
theorem rd_eqTT {K : PySem.W.Frag} (hx : tupL x = some (ns.map D.int)) (hy : tupL y = some (ms.map D.int)) : RD K (rEqD K) x y (.bl (decide (ns = ms))) := fun S H ow vx vy Q o dx dy q => by
  obtain ⟨a, xs, rfl, h1, h2⟩ := dx.of_tup hx
  obtain ⟨b, ys, rfl, h3, h4⟩ := dy.of_tup hy
  have e1 := Dens.ints h2
  have e2 := Dens.ints h4
  subst e1 e2
  refine ⟨_, _, .tup h1 (dp_ints ns), .tup h3 (dp_ints ms), shaped_t ns, shaped_t ms, ?_⟩
  have e3 : PyData.eqv (.tuple (ns.map PyData.int)) (.tuple (ms.map PyData.int)) = decide (ns = ms) := eqv_ints ns ms
  rw [e3]
  exact q _ _ (Evl.Ex.refl H) (.bl _)
theorem rd_neTT {K : PySem.W.Frag} (hx : tupL x = some (ns.map D.int)) (hy : tupL y = some (ms.map D.int)) : RD K (rNeD K) x y (.bl (!decide (ns = ms))) := fun S H ow vx vy Q o dx dy q => by
  obtain ⟨a, xs, rfl, h1, h2⟩ := dx.of_tup hx
  obtain ⟨b, ys, rfl, h3, h4⟩ := dy.of_tup hy
  have e1 := Dens.ints h2
  have e2 := Dens.ints h4
  subst e1 e2
  refine ⟨_, _, .tup h1 (dp_ints ns), .tup h3 (dp_ints ms), shaped_t ns, shaped_t ms, ?_⟩
  have e3 : PyData.eqv (.tuple (ns.map PyData.int)) (.tuple (ms.map PyData.int)) = decide (ns = ms) := eqv_ints ns ms
  rw [e3]
  exact q _ _ (Evl.Ex.refl H) (.bl _)
theorem ptd_neTT (hu : X.A.units + 64 < cLine) (ha : PD X st ow a (.d x) ow1) (hb : PD X st ow1 b (.d y) ow2) (hx : tupL x = some (ns.map D.int)) (hy : tupL y = some (ms.map D.int)) : PTD X st ow (.Compare a [.NotEq] [b] pos) (!decide (ns = ms)) ow2 := ptd_cmp (op_neD hu) (nomark _) (rd_neTT hx hy) ha hb
theorem ptd_eqTT (hu : X.A.units + 64 < cLine) (ha : PD X st ow a (.d x) ow1) (hb : PD X st ow1 b (.d y) ow2) (hx : tupL x = some (ns.map D.int)) (hy : tupL y = some (ms.map D.int)) : PTD X st ow (.Compare a [.Eq] [b] pos) (decide (ns = ms)) ow2 := ptd_cmp (op_eqD hu) (nomark _) (rd_eqTT hx hy) ha hb
/-! ### in -/
theorem inV_ints (n : Int) : ∀ ns : List Int, inV (.int n) (ns.map V.int) = decide (n ∈ ns)
  | [] => by rfl
  | m :: ns => by
    have ih := inV_ints n ns
    unfold inV at ih ⊢
    rw [List.map_cons, List.any_cons, ih]
    show ((m == n) || decide (n ∈ ns)) = decide (n ∈ m :: ns)
    by_cases h : m = n
    · subst h; simp
    · have h2 : ¬ n = m := fun e => h e.symm
      simp [h, h2]
/-- n in a list or tuple of ints -/
def seqL : D → Option (List D)
  | .lst l => some l
  | .lstV l => some l
  | d => tupL d
theorem den_seq {K : PySem.W.Frag} {S : List Addr} {H : Hp} {v : V} (h : Den K S H v d) (e : seqL d = some ds) : ∃ a xs, v = .ref a ∧ (SqL K H a xs ∨ SqT K H a xs) ∧ Dens K S H xs ds := by
  cases h with
  | lst h r => cases e; exact ⟨_, _, rfl, .inl h.sq, r⟩
  | lstV n h r => cases e; exact ⟨_, _, rfl, .inl (.inl (.inl h)), r⟩
  | tup h r => cases e; exact ⟨_, _, rfl, .inr h.sq, r⟩
  | tupN h r => cases e; exact ⟨_, _, rfl, .inr h.sq, r⟩
  | par n h r => cases e; exact ⟨_, _, rfl, .inr (.inl h), r⟩
  | _ => cases e
theorem rd_in {K : PySem.W.Frag} {neg : Bool} (hy : seqL y = some (ns.map D.int)) : RD K (rIn K neg) (.int i) y (.bl (if neg then !decide (i ∈ ns) else decide (i ∈ ns))) := fun S H ow vx vy Q o dx dy q => by
  obtain ⟨a, xs, rfl, h1, h2⟩ := den_seq dy hy
  have e1 := Dens.ints h2
  subst e1
  refine ⟨a, _, rfl, h1, by rw [dx.of_int] <;> rfl, flat_ints ns, ?_⟩
  rw [dx.of_int, inV_ints]
  exact q _ _ (Evl.Ex.refl H) (.bl _)
theorem pd_in (ha : PD X st ow a (.d (.int i)) ow1) (hb : PD X st ow1 b (.d y) ow2) (hy : seqL y = some (ns.map D.int)) (hm : behindInMarks .In b = false := by rfl) : PD X st ow (.Compare a [.In] [b] pos) (.d (.bl (decide (i ∈ ns)))) ow2 := pd_cmp op_in_seq hm (rd_in (neg := false) hy) ha hb
theorem ptd_in (ha : PD X st ow a (.d (.int i)) ow1) (hb : PD X st ow1 b (.d y) ow2) (hy : seqL y = some (ns.map D.int)) (hm : behindInMarks .In b = false := by rfl) : PTD X st ow (.Compare a [.In] [b] pos) (decide (i ∈ ns)) ow2 := ptd_cmp op_in_seq hm (rd_in (neg := false) hy) ha hb
theorem ptd_notIn (ha : PD X st ow a (.d (.int i)) ow1) (hb : PD X st ow1 b (.d y) ow2) (hy : seqL y = some (ns.map D.int)) (hm : behindInMarks .NotIn b = false := by rfl) : PTD X st ow (.Compare a [.NotIn] [b] pos) (!decide (i ∈ ns)) ow2 := ptd_cmp op_notIn_seq hm (rd_in (neg := true) hy) ha hb
/-! ### list(range(n)), tuple(range(n)) -/
theorem dens_rg {K : PySem.W.Frag} {S : List Addr} {H : Hp} {n : Int} (h : 0 ≤ n) : Dens K S H (rgV 0 n) (rngD 0 n.toNat) := by
  have e : rgV 0 n = ((List.range n.toNat).map fun (i : Nat) => (0 + (i : Int))).map V.int := by
    unfold rgV
    rw [List.map_map, Int.sub_zero] <;> rfl
  have e2 : rngD 0 n.toNat = ((List.range n.toNat).map fun (i : Nat) => (0 + (i : Int))).map D.int := by
    unfold rngD
    rw [List.map_map] <;> rfl
  rw [e, e2]
  exact Dens.of_ints _
theorem pd_tupRg {q1 p1 : Pos} {n : Int} (hc : X.calm = true) (hm : X.mg "tuple" = none) (hr : X.mg "range" = none) (h : PD X st ow e (.d (.int n)) ow1) (hn : 0 ≤ n ∧ n ≤ 1000) (hg : Gl X "tuple" := by rfl) (hg2 : Gl X "range" := by rfl) (na : starEach [e] X.env = (false, eval e X.env) :: starEach [] X.env := by rfl)
    (nb : starEach [.Call (.Name "range" q1) [e] [] p1] X.env = (false, eval (.Call (.Name "range" q1) [e] [] p1) X.env) :: starEach [] X.env := by rfl) : PD X st ow (.Call (.Name "tuple" p) [.Call (.Name "range" q1) [e] [] p1] [] pos) (.d (.tup (rngD 0 n.toNat))) ow1 :=
  (pe_tupRg hc hg hm (prg_1 hg2 hr h na) nb).imp fun σ H Q ⟨S, sl, o, k⟩ => ⟨S, sl, o, fun S1 v H1 f1 o1 d1 => by
    cases d1 with
    | d d1 =>
      refine ⟨n, d1.of_int, .of_le (Int.le_refl 0) (by omega) (by omega) hn.1, fun q hq => ?_⟩
      exact k S1 _ _ (f1.trans o1 (.of (Evl.Ex.new hq))) (o1.ex (Evl.Ex.new hq)) (.d (new_tup o1 hq (dens_rg hn.1)))⟩
/-! ### d[t], t a tuple -/
theorem kds_val {K : PySem.W.Frag} {S : List Addr} {H : Hp} {kk : List Key} : ∀ {kvs : List (List Key × V)} {gs : List (List Key × D)}, KDs K S H kvs gs → ∀ d, (gs.find? fun kv => decide (kv.1 = kk)).map (·.2) = some d → ∃ v, valV kvs kk = some v ∧ Den K S H v d
  | [], [], _, d, e => by cases e
  | [], _ :: _, h, _, _ => nomatch h
  | _ :: _, [], h, _, _ => nomatch h
  | (k1, v1) :: kvs, (k2, d2) :: gs, h, d, e => by
    cases h with
    | kcons h1 r =>
      unfold valV
      rw [List.find?_cons] at e ⊢
      by_cases hk : k1 = kk
      · have hb : decide ((k1, v1).1 = kk) = true := decide_eq_true hk
        have hb2 : decide ((k1, d2).1 = kk) = true := decide_eq_true hk
        rw [hb2] at e
        rw [hb]
        cases e
        exact ⟨v1, rfl, h1⟩
      · have hb : decide ((k1, v1).1 = kk) = false := decide_eq_false hk
        have hb2 : decide ((k1, d2).1 = kk) = false := decide_eq_false hk
        rw [hb2] at e
        rw [hb]
        exact kds_val r d e
def lookT (gs : List (List Key × D)) (ns : List Int) : Option D := (gs.find? fun kv => decide (kv.1 = ns.map Sum.inl)).map (·.2)
theorem pd_getT {gs : List (List Key × D)} (hu : X.A.units + 1 < cLine) (ho : PD X st ow a (.d (.dT gs)) ow1) (hi : PD X st ow1 b (.d (.tup (ns.map D.int))) ow2) (hl : lookT gs ns = some d) (hs : NoSl b := by exact fun _ _ => rfl) : PD X st ow (.Subscript a b pos) (.d d) ow2 :=
  (pe_dget hu ho hi hs).imp fun σ H Q ⟨S, sl, o, k⟩ => ⟨S, sl, o, fun S1 v1 H1 f1 o1 d1 => ⟨S1, f1.slots sl, o1, fun S2 v2 H2 f2 o2 d2 => by
    cases d1 with
    | d d1 =>
      cases d2 with
      | d d2 =>
        have d3 : Den X.K S2 H2 v1 (.dT gs) := f2.den d1
        cases d3 with
        | dT n h r =>
          cases d2 with
          | tup h2 r2 =>
            have e1 := Dens.ints r2
            subst e1
            obtain ⟨v, hv, dv⟩ := kds_val r d hl
            refine ⟨_, v, rfl, .inr ⟨_, ns.map Sum.inl, _, .inl h, rfl, ?_, hv.symm⟩, k S2 v H2 (f1.trans o1 f2) o2 (.d dv)⟩
            rw [h2.2, List.map_map] <;> rfl⟩⟩
end
end Bl
set_option Elab.async false
set_option linter.all false
set_option maxRecDepth 100000
set_option maxHeartbeats 4000000
namespace Bl
open PySem PySem.Spec PyProof.Rows L2
section
variable {X : Cx} {e a b c o tg iter elt : Expr} {es : List Expr} {st st1 st2 : Sta} {ow ow1 ow2 ow3 : List OB} {r : R} {rs : List R} {d x y z dd : D} {ds xs l : List D} {pos p p2 apos cpos : Pos} {i j : Int} {u v : Bool} {ns ms : List Int} {k : Nat}
/-! ### the mutable lists: append, pop, reverse, len, items -/
theorem own_sq {K : PySem.W.Frag} {S : List Addr} {H : Hp} {v : V} (o : Owns K S H ow) (h : DenR K S H v (.own k)) (hk : ow[k]? = some (.l l)) : ∃ a xs, v = .ref a ∧ S[k]? = some a ∧ H a = some (.lst xs) ∧ Dens K S H xs l := by
  cases h with
  | own h =>
    obtain ⟨a, xs, z, y, w⟩ := o.at_ k l hk
    rw [h] at z
    cases z
    exact ⟨_, xs, rfl, h, y, w⟩
theorem own_tyL {K : PySem.W.Frag} {H : Hp} {a : Addr} {xs : List V} (h : H a = some (.lst xs)) : tyV K "list" (.ref a) H := .inl ⟨rfl, xs, .inl (.inl h)⟩
theorem own_upd {K : PySem.W.Frag} {S : List Addr} {H : Hp} {a : Addr} {ys : List V} {l' : List D} (o : Owns K S H ow) (hk : S[k]? = some a) (r : Dens K S H ys l') : Fwd S H S (upd H a (.lst ys)) ∧ Owns K S (upd H a (.lst ys)) (ow.set k (.l l')) := by
  obtain ⟨g1, g2⟩ := own_put o hk r
  exact ⟨⟨⟨[], (List.append_nil _).symm, fun _ z => nomatch z⟩, g1⟩, g2⟩
theorem pd_append (ho : PD X st ow o (.own k) ow1) (ha : PD X st ow1 e (.d d) ow2) (hk1 : ∃ l1, ow1[k]? = some (.l l1)) (hk : ow2[k]? = some (.l l)) (hz : l.length < 100000) (h1 : attributeBase o "append" X.env (eval o X.env) = eval o X.env := by rfl)
    (h2 : ((backTo cpos (starEach [e] X.env)).all (fun x => !x.1) && (backToKw cpos (keywordEach [] X.env)).all (fun x => x.1.isSome) && decide ([e].length + ([] : List Keyword).length + (if ([] : List Keyword).isEmpty then 0 else 1) < 30)) = true := by rfl)
    (h3 : (apos.endLine == cpos.line) = true := by rfl) (h4 : starEach [e] X.env = (false, eval e X.env) :: starEach [] X.env := by rfl) (h5 : (backTo cpos (starEach [] X.env)).any (·.1) = false := by rfl) : PD X st ow (.Call (.Attribute o "append" apos) [e] [] cpos) (.d .non) (ow2.set k (.l (l ++ [d]))) :=
  (pe_bm PySem.F.plainAttrs_list PySem.F.slot_list_append PySem.F.type_list_append mt_append ho (pa_cons ha pa_nil h4) h1 h2 h3 h4 h5).imp fun σ H Q ⟨S, sl, o, q⟩ => ⟨S, sl, o, fun S1 v H1 f1 o1 d1 => by
    obtain ⟨l1, hl1⟩ := hk1
    obtain ⟨a, xs, rfl, g1, g2, g3⟩ := own_sq o1 d1 hl1
    refine ⟨own_tyL g2, S1, f1.slots sl, o1, fun S2 w H2 f2 o2 d2 => ?_⟩
    obtain ⟨a', xs', e', g1', g2', g3'⟩ := own_sq o2 (f2.denR d1) hk
    cases e'
    cases d2 with
    | d d2 =>
      obtain ⟨u1, u2⟩ := own_upd (l' := l ++ [d]) o2 g1' (Dens.append g3' (.cons d2 .nil))
      exact ⟨a, xs', w, rfl, rfl, g2', by rw [Dens.length g3']; exact Evl.sz_lt hz, q S2 _ _ (f1.trans o1 (f2.trans o2 u1)) u2 (.d .non)⟩⟩
theorem dens_last {K : PySem.W.Frag} {S : List Addr} {H : Hp} {xs : List V} (h : Dens K S H xs (l ++ [d])) : ∃ ys v, xs = ys ++ [v] ∧ Dens K S H ys l ∧ Den K S H v d := by
  have hl := Dens.length h
  rw [List.length_append] at hl
  have hl : xs.length = l.length + 1 := hl
  obtain ⟨v, hv, hd⟩ := Dens.get h (i := l.length) (d := d) (by simp)
  have h1 := Dens.take l.length h
  rw [List.take_left] at h1
  refine ⟨xs.take l.length, v, ?_, h1, hd⟩
  have h2 : xs.take (l.length + 1) = xs.take l.length ++ [v] := take_succ_of hv
  rw [← h2, ← hl, List.take_length]
theorem pd_pop (ho : PD X st ow o (.own k) ow1) (hk : ow1[k]? = some (.l (l ++ [d]))) (h1 : attributeBase o "pop" X.env (eval o X.env) = eval o X.env := by rfl) (h3 : (apos.endLine == cpos.line) = true := by rfl) : PD X st ow (.Call (.Attribute o "pop" apos) [] [] cpos) (.d d) (ow1.set k (.l l)) :=
  (pe_bm0 PySem.F.plainAttrs_list PySem.F.slot_list_pop PySem.F.type_list_pop mt_pop ho h1 h3).imp fun σ H Q ⟨S, sl, o, q⟩ => ⟨S, sl, o, fun S1 v H1 f1 o1 d1 => by
    obtain ⟨a, xs, rfl, g1, g2, g3⟩ := own_sq o1 d1 hk
    obtain ⟨ys, v, rfl, r1, r2⟩ := dens_last g3
    obtain ⟨u1, u2⟩ := own_upd (l' := l) o1 g1 r1
    refine ⟨own_tyL g2, a, ys ++ [v], v, rfl, rfl, g2, by simp, ?_⟩
    rw [List.dropLast_concat]
    exact q S1 v _ (f1.trans o1 u1) u2 (.d (u1.den r2))⟩
theorem pd_reverse (ho : PD X st ow o (.own k) ow1) (hk : ow1[k]? = some (.l l)) (h1 : attributeBase o "reverse" X.env (eval o X.env) = eval o X.env := by rfl) (h3 : (apos.endLine == cpos.line) = true := by rfl) : PD X st ow (.Call (.Attribute o "reverse" apos) [] [] cpos) (.d .non) (ow1.set k (.l l.reverse)) :=
  (pe_bm0 PySem.F.plainAttrs_list PySem.F.slot_list_reverse PySem.F.type_list_reverse mt_reverse ho h1 h3).imp fun σ H Q ⟨S, sl, o, q⟩ => ⟨S, sl, o, fun S1 v H1 f1 o1 d1 => by
    obtain ⟨a, xs, rfl, g1, g2, g3⟩ := own_sq o1 d1 hk
    obtain ⟨u1, u2⟩ := own_upd (l' := l.reverse) o1 g1 (Dens.reverse g3)
    exact ⟨own_tyL g2, a, xs, rfl, rfl, g2, q S1 _ _ (f1.trans o1 u1) u2 (.d .non)⟩⟩
theorem pd_lenO (hm : X.mg "len" = none) (ha : PD X st ow e (.own k) ow1) (hk : ow1[k]? = some (.l l)) (hg : Gl X "len" := by rfl) (he : starEach [e] X.env = (false, eval e X.env) :: starEach [] X.env := by rfl) : PD X st ow (.Call (.Name "len" p) [e] [] pos) (.d (.int (l.length : Int))) ow1 :=
  (pe_callB call_len_seq hg hm PySem.boot_len (pa_cons ha pa_nil he) (by decide) (by decide) he rfl).imp fun σ H Q ⟨S, sl, o, q⟩ => ⟨S, sl, o, fun S1 v H1 f1 o1 d1 => by
    obtain ⟨a, xs, rfl, g1, g2, g3⟩ := own_sq o1 d1 hk
    refine ⟨a, xs, rfl, .inl (.inl (.inl g2)), ?_⟩
    rw [Dens.length g3]
    exact q S1 _ H1 f1 o1 (.d (.int _))⟩
theorem pd_ixO (ha : PD X st ow a (.own k) ow1) (hb : PD X st ow1 b (.d (.int i)) ow2) (hk : ow2[k]? = some (.l l)) (hi : atI l i = some d) (hs : PlainIx b := by exact fun _ _ => rfl) : PD X st ow (.Subscript a b pos) (.d d) ow2 :=
  (pe_ix ix_list ha hb hs).imp fun σ H Q ⟨S, sl, o, q⟩ => ⟨S, sl, o, fun S1 v H1 f1 o1 d1 => ⟨S1, f1.slots sl, o1, fun S2 w H2 f2 o2 d2 => by
    obtain ⟨a, xs, rfl, g1, g2, g3⟩ := own_sq o2 (f2.denR d1) hk
    obtain ⟨v, h3, h4⟩ := den_at g3 hi
    cases d2 with
    | d d2 => exact ⟨a, xs, i, v, rfl, d2.of_int, .inl (.inl g2), h3, q S2 v H2 (f1.trans o1 f2) o2 (.d h4)⟩⟩⟩
/-- xs[i] = e, xs one of the mutable lists -/
theorem psd_setO {tpos : Pos} (he : PD X st ow e (.d d) ow1) (ho : PD X st ow1 o (.own k) ow2) (hi : PD X st ow2 b (.d (.int i)) ow3) {n : Nat} (hk : ow3[k]? = some (.l l)) (hn : ixN l.length i = some n) (hs : swapsWithSole [.Subscript o b tpos] e pos.line X.env = pure false := by rfl) (hw : swappedStores [.Subscript o b tpos] e X.env = pure none := by rfl)
    (h1 : (assignEach [.Subscript o b tpos] X.env).map (·.2) = [assign (.Subscript o b tpos) X.env] := by rfl) (hsub : ∀ v, assign (.Subscript o b tpos) X.env v = (do
      let ov ← holding [v] (eval o X.env)
      let iv ← holding [v, ov] (eval b X.env)
      standAt tpos
      holding [v, ov, iv] (setItem ov iv v)
      release [v, ov, iv] []) := by intro _; rfl) : PSD X st ow (.Assign [.Subscript o b tpos] e pos) (.nx st (ow3.set k (.l (l.set n d)))) :=
  (ps_asg he (pg_sub ho hi set_list hsub) hs hw h1).imp fun E σ H ⟨S, sl, o, q⟩ => ⟨S, sl, o, fun S1 v H1 f1 o1 d1 => ⟨S1, f1.slots sl, o1, fun S2 w H2 f2 o2 d2 => ⟨S2, (f1.trans o1 f2).slots sl, o2, fun S3 z H3 f3 o3 d3 => by
    obtain ⟨a, xs, rfl, g1, g2, g3⟩ := own_sq o3 (f3.denR d2) hk
    cases d1 with
    | d d1 =>
      cases d3 with
      | d d3 =>
        have f23 := f2.trans o2 f3
        obtain ⟨u1, u2⟩ := own_upd (l' := l.set n d) o3 g1 (Dens.set (f23.den d1) n g3)
        refine ⟨a, xs, i, n, rfl, d3.of_int, g2, by rw [Dens.length g3]; exact hn, ?_⟩
        exact q S3 σ _ (f1.trans o1 (f23.trans o3 u1)) ((f1.trans o1 (f23.trans o3 u1)).slots sl) u2⟩⟩⟩
/-- list(t) of a tuple, list(xs) as a new mutable list -/
theorem pd_listO (hm : X.mg "list" = none) (ha : PD X st ow e (.d dd) ow1) (hs : seqL dd = some ds) (hg : Gl X "list" := by rfl) (he : starEach [e] X.env = (false, eval e X.env) :: starEach [] X.env := by rfl) : PD X st ow (.Call (.Name "list" p) [e] [] pos) (.own ow1.length) (ow1 ++ [.l ds]) :=
  (pe_callTy call_list_of hg hm (by decide +kernel) (pa_cons ha pa_nil he) (by decide) (by decide) he rfl).imp fun σ H Q ⟨S, sl, o, k⟩ => ⟨S, sl, o, fun S1 vs H1 f1 o1 d1 => by
    cases d1 with
    | d d1 =>
      obtain ⟨a, xs, rfl, h1, h2⟩ := den_seq d1 hs
      refine ⟨a, xs, rfl, h1, fun l hl => ?_⟩
      obtain ⟨g1, g2, g3⟩ := own_new o1 hl h2
      exact k _ _ _ (f1.trans o1 g1) g2 g3⟩
/-- list(xs) of one of the mutable lists, as data -/
theorem pd_listOD (hm : X.mg "list" = none) (ha : PD X st ow e (.own k) ow1) (hk : ow1[k]? = some (.l l)) (hg : Gl X "list" := by rfl) (he : starEach [e] X.env = (false, eval e X.env) :: starEach [] X.env := by rfl) : PD X st ow (.Call (.Name "list" p) [e] [] pos) (.d (.lst l)) ow1 :=
  (pe_callTy call_list_of hg hm (by decide +kernel) (pa_cons ha pa_nil he) (by decide) (by decide) he rfl).imp fun σ H Q ⟨S, sl, o, q⟩ => ⟨S, sl, o, fun S1 vs H1 f1 o1 d1 => by
    obtain ⟨a, xs, rfl, g1, g2, g3⟩ := own_sq o1 d1 hk
    exact ⟨a, xs, rfl, .inl (.inl (.inl g2)), fun l hl => q S1 _ _ (f1.trans o1 (.of (Evl.Ex.new hl))) (o1.ex (Evl.Ex.new hl)) (.d (new_lst o1 hl g3))⟩⟩
/-! ### min, max of a list of ints -/
def lmin : List Int → Int
  | [] => 0
  | [n] => n
  | n :: l => if n ≤ lmin l then n else lmin l
def lmax : List Int → Int
  | [] => 0
  | [n] => n
  | n :: l => if lmax l ≤ n then n else lmax l
theorem lmin_spec : ∀ {ns : List Int}, 0 < ns.length → lmin ns ∈ ns ∧ ∀ y ∈ ns, lmin ns ≤ y
  | [n], _ => ⟨List.mem_cons_self, fun y hy => by rw [List.mem_singleton.mp hy]; exact Int.le_refl _⟩
  | n :: m :: l, _ => by
    obtain ⟨h1, h2⟩ := lmin_spec (ns := m :: l) (by simp)
    show (if n ≤ lmin (m :: l) then n else lmin (m :: l)) ∈ n :: m :: l ∧ ∀ y ∈ n :: m :: l, (if n ≤ lmin (m :: l) then n else lmin (m :: l)) ≤ y
    split
    · refine ⟨List.mem_cons_self, fun y hy => ?_⟩
      rcases List.mem_cons.mp hy with z | z
      · omega
      · have := h2 y z; omega
    · refine ⟨List.mem_cons_of_mem _ h1, fun y hy => ?_⟩
      rcases List.mem_cons.mp hy with z | z
      · omega
      · exact h2 y z
theorem lmax_spec : ∀ {ns : List Int}, 0 < ns.length → lmax ns ∈ ns ∧ ∀ y ∈ ns, y ≤ lmax ns
  | [n], _ => ⟨List.mem_cons_self, fun y hy => by rw [List.mem_singleton.mp hy]; exact Int.le_refl _⟩
  | n :: m :: l, _ => by
    obtain ⟨h1, h2⟩ := lmax_spec (ns := m :: l) (by simp)
    show (if lmax (m :: l) ≤ n then n else lmax (m :: l)) ∈ n :: m :: l ∧ ∀ y ∈ n :: m :: l, y ≤ (if lmax (m :: l) ≤ n then n else lmax (m :: l))
    split
    · refine ⟨List.mem_cons_self, fun y hy => ?_⟩
      rcases List.mem_cons.mp hy with z | z
      · omega
      · have := h2 y z; omega
    · refine ⟨List.mem_cons_of_mem _ h1, fun y hy => ?_⟩
      rcases List.mem_cons.mp hy with z | z
      · omega
      · exact h2 y z
theorem pd_minL (hc : X.calm = true) (hm : X.mg "min" = none) (ha : PADd X st ow [e] [.lst (ns.map D.int)] ow1) (hl : 0 < ns.length) (hg : Gl X "min" := by rfl) (he : starEach [e] X.env = [(false, eval e X.env)] := by rfl) : PD X st ow (.Call (.Name "min" p) [e] [] pos) (.d (.int (lmin ns))) ow1 :=
  pd_callB (cr_min hc) (fun S H ow vs Q o h q => by
    obtain ⟨v, rfl, g⟩ := dens1 h
    obtain ⟨a, xs, rfl, h1, h2⟩ := g.of_lst
    have e1 := Dens.ints h2
    subst e1
    refine ⟨a, ns, rfl, h1.sq, hl, fun m hm hle => ?_⟩
    obtain ⟨g1, g2⟩ := lmin_spec hl
    have e2 : m = lmin ns := Int.le_antisymm (hle _ g1) (g2 _ hm)
    rw [e2]
    exact q _ _ (Evl.Ex.refl H) (.int _)) hm (by decide +kernel) ha hg (by decide) (by decide) he rfl
theorem pd_maxL (hc : X.calm = true) (hm : X.mg "max" = none) (ha : PADd X st ow [e] [.lst (ns.map D.int)] ow1) (hl : 0 < ns.length) (hg : Gl X "max" := by rfl) (he : starEach [e] X.env = [(false, eval e X.env)] := by rfl) : PD X st ow (.Call (.Name "max" p) [e] [] pos) (.d (.int (lmax ns))) ow1 :=
  pd_callB (cr_max hc) (fun S H ow vs Q o h q => by
    obtain ⟨v, rfl, g⟩ := dens1 h
    obtain ⟨a, xs, rfl, h1, h2⟩ := g.of_lst
    have e1 := Dens.ints h2
    subst e1
    refine ⟨a, ns, rfl, h1.sq, hl, fun m hm hle => ?_⟩
    obtain ⟨g1, g2⟩ := lmax_spec hl
    have e2 : m = lmax ns := Int.le_antisymm (g2 _ hm) (hle _ g1)
    rw [e2]
    exact q _ _ (Evl.Ex.refl H) (.int _)) hm (by decide +kernel) ha hg (by decide) (by decide) he rfl
end
end Bl
set_option Elab.async false
set_option linter.all false
set_option maxRecDepth 100000
set_option maxHeartbeats 4000000
namespace Bl
open PySem PySem.Spec PyProof.Rows L2
section
variable {X : Cx} {e a b c o tg iter elt : Expr} {es : List Expr} {st st1 st2 : Sta} {ow ow1 ow2 ow3 : List OB} {r : R} {rs : List R} {d x y z dd : D} {ds xs l : List D} {pos p p2 apos cpos : Pos} {i j : Int} {u v q : Bool} {ns ms : List Int} {k : Nat}
/-! ### isinstance -/
def tyB : D → Option String
  | .non => some "NoneType"
  | .bl _ => some "bool"
  | .int _ => some "int"
  | .str _ => some "str"
  | .tup _ => some "tuple"
  | .tupN _ => some "tuple"
  | .par _ => some "tuple"
  | .lst _ => some "list"
  | .lstV _ => some "list"
  | _ => none
theorem tyx_of {K : PySem.W.Frag} {S : List Addr} {H : Hp} {v : V} {d : D} {t : String} (h : Den K S H v d) (e : tyB d = some t) : TyX K H v (.type t) := by
  cases h with
  | non => cases e; exact .base .non
  | bl b => cases e; exact .base (.bl b)
  | int i => cases e; exact .base (.int i)
  | str x => cases e; exact .base (.str x)
  | ty n => cases e
  | tup h r => cases e; exact .base (.tup h.2)
  | tupN h r =>
    cases e
    rcases h with ⟨_, o, _, h⟩ | ⟨o, its, n, _, h, c, _⟩
    · exact .fTuple h
    · exact .kTuple h c
  | par n h r =>
    cases e
    rcases h with h | ⟨o, h⟩
    · exact .base (.tup h)
    · exact .fTuple h
  | lst h r =>
    cases e
    rcases h with ⟨_, h | ⟨o, h⟩⟩ | ⟨o, its, n, h, c, _⟩
    · exact .base (.lst h)
    · exact .base (.frz h)
    · exact .kList h c
  | lstV n h r => cases e; exact .base (.lst h)
  | ins n h r => cases e
  | dT n h r => cases e
/-- the name of a built-in class -/
theorem pd_ty {x : Str} {n : String} (hm : X.mg x = none) (hg : Gl X x := by rfl) (hv : bootBuiltins x = some (.type n) := by decide +kernel) (hn : x ≠ "__name__" := by decide) (hd : (x == ("__debug__" : Str)) = false := by decide) : PD X st ow (.Name x pos) (.d (.ty n)) ow :=
  (pe_bltn hg hm hv (show RelV (.ty n) (.type n) from rfl) hn hd).imp fun σ H Q ⟨S, sl, o, k⟩ => k S _ H (.refl S H) o (.d (.ty n))
theorem rc_isB {K : PySem.W.Frag} {t n : String} (ht : tyB d = some t) (hq : kitB t n = some q) : RC K (rIsi K) [d, .ty n] (.bl q) := fun S H ow vs Q o h k => by
  obtain ⟨v, w, rfl, g1, g2⟩ := dens2 h
  cases g2
  exact ⟨v, _, _, _, q, rfl, .ty n, tyx_of g1 ht, kit_ty hq, k _ _ (Evl.Ex.refl H) (.bl q)⟩
theorem rc_isT2 {K : PySem.W.Frag} {t n m : String} {q1 q2 : Bool} (ht : tyB d = some t) (h1 : kitB t n = some q1) (h2 : kitB t m = some q2) : RC K (rIsiT K) [d, .tup [.ty n, .ty m]] (.bl (q1 || q2)) := fun S H ow vs Q o h k => by
  obtain ⟨v, w, rfl, g1, g2⟩ := dens2 h
  cases g2 with
  | tup hh r =>
    obtain ⟨w1, w2, rfl, r1, r2⟩ := dens2 r
    cases r1
    cases r2
    refine ⟨v, _, _, _, [.type n, .type m], (q1 || q2), rfl, hh.2, .cons (.ty n) (.cons (.ty m) .nil), tyx_of g1 ht, ?_, k _ _ (Evl.Ex.refl H) (.bl _)⟩
    refine kitAny_cons (kit_ty h1) (fun e => ?_) (fun e => by rw [e] <;> rfl)
    rw [e]
    refine kitAny_cons (kit_ty h2) (fun e => ?_) (fun e => by rw [e] <;> rfl)
    rw [e]
    exact kitAny_nil
theorem boot_isi : bootBuiltins "isinstance" = some (.builtin "isinstance") := by decide +kernel
/-- isinstance(e, T), T a built-in class -/
theorem pd_isB {t n : String} (hm : X.mg "isinstance" = none) (ha : PADd X st ow [e, c] [d, .ty n] ow1) (q : Bool) (ht : tyB d = some t := by rfl) (hq : kitB t n = some q := by decide +kernel) (hg : Gl X "isinstance" := by rfl) (he : starEach [e, c] X.env = (false, eval e X.env) :: starEach [c] X.env := by rfl) (hpl : (backTo pos (starEach [c] X.env)).any (·.1) = false := by rfl) :
    PD X st ow (.Call (.Name "isinstance" p) [e, c] [] pos) (.d (.bl q)) ow1 := pd_callB call_isi (rc_isB ht hq) hm boot_isi ha hg (by decide) (by decide) he hpl
/-- isinstance(e, (S, T)) -/
theorem pd_isT2 {t n m : String} (hm : X.mg "isinstance" = none) (ha : PADd X st ow [e, c] [d, .tup [.ty n, .ty m]] ow1) (q1 q2 : Bool) (ht : tyB d = some t := by rfl) (h1 : kitB t n = some q1 := by decide +kernel) (h2 : kitB t m = some q2 := by decide +kernel) (hg : Gl X "isinstance" := by rfl) (he : starEach [e, c] X.env = (false, eval e X.env) :: starEach [c] X.env := by rfl) (hpl : (backTo pos (starEach [c] X.env)).any (·.1) = false := by rfl) :
    PD X st ow (.Call (.Name "isinstance" p) [e, c] [] pos) (.d (.bl (q1 || q2))) ow1 := pd_callB call_isiT (rc_isT2 ht h1 h2) hm boot_isi ha hg (by decide) (by decide) he hpl
/-- what isinstance asks of an own class -/
structure OwnC (K : PySem.W.Frag) (C : Addr) : Prop where
  cl : Cls K C
  ha : PySem.W.findIn K (.ref C) "__class__" = some (some (.builtin "object.__class__"))
  hn : PySem.W.specialIn K (.builtin "object.__class__") "__get__" = some (some (.builtin "getset_descriptor.__get__"))
  htk : PySem.W.takesIn K (.builtin "object.__class__") = some true
  hm : PySem.W.mroIn K C (.type "object") = some true
  self : PySem.W.kitOne K (.ref C) (.ref C) = some true
/-- isinstance(e, C), C the object's own class -/
theorem pd_isC {C : Addr} {gs : List (Str × D)} {cn : Str} {pc : Pos} (hm : X.mg "isinstance" = none) (hC : X.mg cn = some (.ref C)) (oc : OwnC X.K C) (ha : PD X st ow e (.d (.ins C gs)) ow1) (hg : Gl X "isinstance" := by rfl) (hgc : Gl X cn := by rfl) (hd : (cn == ("__debug__" : Str)) = false := by decide)
    (he : starEach [e, .Name cn pc] X.env = (false, eval e X.env) :: starEach [.Name cn pc] X.env := by rfl) (he2 : starEach [.Name cn pc] X.env = (false, eval (.Name cn pc) X.env) :: starEach [] X.env := by rfl) (hpl : (backTo pos (starEach [.Name cn pc] X.env)).any (·.1) = false := by rfl) :
    PD X st ow (.Call (.Name "isinstance" p) [e, .Name cn pc] [] pos) (.d (.bl true)) ow1 :=
  (pe_callB call_isi hg hm boot_isi (pa_cons ha (pa_cons (pe_glob (v := .ref C) hgc hC rfl hd) pa_nil he2) he) (by decide) (by decide) he hpl).imp fun σ H Q ⟨S, sl, o, k⟩ => ⟨S, sl, o, fun S1 v H1 f1 o1 d1 => by
    cases d1 with
    | d d1 =>
      obtain ⟨a, dx, fs, rfl, _, h1, h2⟩ := den_ins d1
      exact ⟨_, _, _, _, true, rfl, .own C, .base (.ins h1 oc.cl oc.ha oc.hn oc.htk oc.hm), oc.self, k S1 _ H1 f1 o1 (.d (.bl true))⟩⟩
end
end Bl
set_option Elab.async false
set_option linter.all false
set_option maxRecDepth 100000
set_option maxHeartbeats 4000000
namespace Bl
open PySem PySem.Spec PyProof.Rows L2
section
variable {X : Cx} {e a b c o tg iter elt : Expr} {es : List Expr} {st st1 st2 : Sta} {ow ow1 ow2 ow3 : List OB} {r : R} {rs : List R} {d x y z dd : D} {ds xs l : List D} {pos p p2 apos cpos : Pos} {i j : Int} {u v q : Bool} {ns ms : List Int} {k : Nat}
/-! ### math.comb -/
def rComb : List V → Hp → VK → Prop := fun vs H Q => ∃ a b : Int, vs = [.int a, .int b] ∧ 0 ≤ a ∧ 0 ≤ b ∧ a ≤ 18000 ∧ Q (.int (PySem.W.mcComb a b)) H
theorem cr_comb : CallR X (.builtin "math.comb") rComb := by
  intro pins s σ H vs us Q I r h
  obtain ⟨a, b, rfl, h1, h2, h3, q⟩ := h
  obtain ⟨t, u, rfl⟩ := Vals.int2 r
  exact PySem.W.mc_comb h1 h2 (Int.lt_of_le_of_lt h3 (by decide)) (.inr h3) fun _ => ⟨.int _, H, I.tok _, ⟨_, rfl⟩, q⟩
theorem pd_comb {xn : Str} (hm : X.mg xn = some (.builtin "math.comb")) (ha : PADd X st ow [a, b] [.int i, .int j] ow1) (h : 0 ≤ i ∧ 0 ≤ j ∧ i ≤ 18000) (hg : Gl X xn := by rfl) (hdb : (xn == ("__debug__" : Str)) = false := by decide)
    (he : starEach [a, b] X.env = (false, eval a X.env) :: starEach [b] X.env := by rfl) (hpl : (backTo pos (starEach [b] X.env)).any (·.1) = false := by rfl) : PD X st ow (.Call (.Name xn p) [a, b] [] pos) (.d (.int (PySem.W.mcComb i j))) ow1 :=
  (pe_callBfun cr_comb hg hm ha hdb he hpl).imp fun σ H Q ⟨S, sl, o, k⟩ => ⟨S, sl, o, fun S1 vs H1 f1 o1 d1 => by
    obtain ⟨v, w, rfl, g1, g2⟩ := dens2 (densOf d1)
    exact ⟨i, j, by rw [Den.of_int g1, Den.of_int g2], h.1, h.2.1, h.2.2, k S1 _ H1 f1 o1 (.d (.int _))⟩⟩
/-! ### a mutable list handed to isinstance, tuple, for, enumerate -/
theorem pd_isO2 {n m : String} (hm : X.mg "isinstance" = none) (ho : PD X st ow e (.own k) ow1) (ht : PD X st ow1 c (.d (.tup [.ty n, .ty m])) ow2) (hk : ow2[k]? = some (.l l)) (hk1 : ow1[k]? = some (.l l)) (q1 q2 : Bool) (h1 : kitB "list" n = some q1 := by decide +kernel) (h2 : kitB "list" m = some q2 := by decide +kernel) (hg : Gl X "isinstance" := by rfl) (he : starEach [e, c] X.env = (false, eval e X.env) :: starEach [c] X.env := by rfl) (he2 : starEach [c] X.env = (false, eval c X.env) :: starEach [] X.env := by rfl) (hpl : (backTo pos (starEach [c] X.env)).any (·.1) = false := by rfl) :
    PD X st ow (.Call (.Name "isinstance" p) [e, c] [] pos) (.d (.bl (q1 || q2))) ow2 :=
  (pe_callB call_isiT hg hm boot_isi (pa_cons ho (pa_cons ht pa_nil he2) he) (by decide) (by decide) he hpl).imp fun σ H Q ⟨S, sl, o, q⟩ => ⟨S, sl, o, fun S1 v H1 f1 o1 d1 => ⟨S1, f1.slots sl, o1, fun S2 w H2 f2 o2 d2 => by
    obtain ⟨a, xs, rfl, g1, g2, g3⟩ := own_sq o2 (f2.denR d1) hk
    cases d2 with
    | d d2 =>
      cases d2 with
      | tup hh r =>
        obtain ⟨w1, w2, rfl, r1, r2⟩ := dens2 r
        cases r1
        cases r2
        refine ⟨_, _, _, .type "list", [.type n, .type m], (q1 || q2), rfl, hh.2, .cons (.ty n) (.cons (.ty m) .nil), .base (.lst g2), ?_, q S2 _ H2 (f1.trans o1 f2) o2 (.d (.bl _))⟩
        refine kitAny_cons (kit_ty h1) (fun e => ?_) (fun e => by rw [e] <;> rfl)
        rw [e]
        refine kitAny_cons (kit_ty h2) (fun e => ?_) (fun e => by rw [e] <;> rfl)
        rw [e]
        exact kitAny_nil⟩⟩
theorem pd_tupleO (hm : X.mg "tuple" = none) (ha : PD X st ow e (.own k) ow1) (hk : ow1[k]? = some (.l l)) (hg : Gl X "tuple" := by rfl) (he : starEach [e] X.env = (false, eval e X.env) :: starEach [] X.env := by rfl) : PD X st ow (.Call (.Name "tuple" p) [e] [] pos) (.d (.tup l)) ow1 :=
  (pe_callTy call_tuple_of hg hm (by decide +kernel) (pa_cons ha pa_nil he) (by decide) (by decide) he rfl).imp fun σ H Q ⟨S, sl, o, q⟩ => ⟨S, sl, o, fun S1 v H1 f1 o1 d1 => by
    obtain ⟨a, xs, rfl, g1, g2, g3⟩ := own_sq o1 d1 hk
    exact ⟨a, xs, rfl, .inl ⟨.inl (.inl g2), fun l hl => q S1 _ _ (f1.trans o1 (.of (Evl.Ex.new hl))) (o1.ex (Evl.Ex.new hl)) (.d (new_tup o1 hl g3))⟩⟩⟩
theorem pd_tupleON (hm : X.mg "tuple" = none) (ha : PD X st ow e (.own k) ow1) (hk : ow1[k]? = some (.l l)) (hg : Gl X "tuple" := by rfl) (he : starEach [e] X.env = (false, eval e X.env) :: starEach [] X.env := by rfl) : PD X st ow (.Call (.Name "tuple" p) [e] [] pos) (.d (.tupN l)) ow1 :=
  (pe_callTy call_tuple_F hg hm (by decide +kernel) (pa_cons ha pa_nil he) (by decide) (by decide) he rfl).imp fun σ H Q ⟨S, sl, o, q⟩ => ⟨S, sl, o, fun S1 v H1 f1 o1 d1 => by
    obtain ⟨a, xs, rfl, g1, g2, g3⟩ := own_sq o1 d1 hk
    exact ⟨a, xs, rfl, .inl ⟨.inl (.inl g2), fun l ob hd hl => q S1 _ _ (f1.trans o1 (.of (Evl.Ex.new hl))) (o1.ex (Evl.Ex.new hl)) (.d (new_tupN o1 hl hd g3))⟩⟩⟩
def WDI (K : PySem.W.Frag) (S : List Addr) (H : Hp) (J : It) (xs : List D) (I : List OB → Prop) : Prop :=
  L2.Walk J xs.length (fun H2 => ∃ S2 ow2, Fwd S H S2 H2 ∧ Owns K S2 H2 ow2 ∧ I ow2) (fun i H2 x H3 => Evl.Ex H2 H3 ∧ ∀ S2 ow2, Fwd S H S2 H2 → Owns K S2 H2 ow2 → I ow2 → ∃ d, xs[i]? = some d ∧ Den K S2 H3 x d)
def tDII (K : PySem.W.Frag) (st : Sta) (ow : List OB) (xs : List D) (ow' : List OB) (I : List OB → Prop) : TI := fun σ H R => ∃ S, Slots K S H σ st ∧ Owns K S H ow ∧ ∀ S' H' J, Fwd S H S' H' → Owns K S' H' ow' → WDI K S' H' J xs I → R J H'
abbrev PIDI (X : Cx) (st : Sta) (ow : List OB) (tg iter : Expr) (xs : List D) (ow' : List OB) (I : List OB → Prop) : Prop := PI X tg iter (tDII X.K st ow xs ow' I)
abbrev HoldsAt (k : Nat) (l : List D) : List OB → Prop := fun ow2 => ow2[k]? = some (.l l)
theorem ownA {K : PySem.W.Frag} {S S2 : List Addr} {H H2 : Hp} {a : Addr} {ow2 : List OB} (hS : S[k]? = some a) (f : Fwd S H S2 H2) (o : Owns K S2 H2 ow2) (hk : ow2[k]? = some (.l l)) : ∃ xs, H2 a = some (.lst xs) ∧ Dens K S2 H2 xs l := by
  obtain ⟨a', xs, e, g1, g2, g3⟩ := own_sq o (.own (f.get hS)) hk
  cases e
  exact ⟨xs, g2, g3⟩
theorem sq_lst {K : PySem.W.Frag} {H : Hp} {a : Addr} {xs : List V} (h : H a = some (.lst xs)) : SqL K H a xs := .inl (.inl h)
theorem wd_own {K : PySem.W.Frag} {S : List Addr} {H : Hp} {a : Addr} (hS : S[k]? = some a) : WDI K S H (Itl K a) l (HoldsAt k l) where
  goes := fun i H2 hi ⟨S2, ow2, f, o, hk⟩ => by
    obtain ⟨xs, h1, h2⟩ := ownA hS f o hk
    obtain ⟨x, h3, _⟩ := h2.get (List.getElem?_eq_getElem hi)
    exact ⟨xs, x, sq_lst h1, h3⟩
  stops := fun H2 ⟨S2, ow2, f, o, hk⟩ => by
    obtain ⟨xs, h1, h2⟩ := ownA hS f o hk
    exact ⟨xs, sq_lst h1, Nat.le_of_eq h2.length⟩
  yields := fun i H2 x H3 hi _ y => by
    obtain ⟨e, y⟩ := y
    subst e
    refine ⟨Evl.Ex.refl _, fun S2 ow2 f o hk => ?_⟩
    obtain ⟨xs, h1, h2⟩ := ownA hS f o hk
    exact h2.get' (y xs (sq_lst h1))
theorem wd_enumO {K : PySem.W.Frag} {S : List Addr} {H : Hp} {a : Addr} (hS : S[k]? = some a) : WDI K S H (Ite K a) (enumD l) (HoldsAt k l) where
  goes := fun i H2 hi ⟨S2, ow2, f, o, hk⟩ => by
    rw [enumD_len] at hi
    obtain ⟨xs, h1, h2⟩ := ownA hS f o hk
    obtain ⟨x, h3, _⟩ := h2.get (List.getElem?_eq_getElem hi)
    exact ⟨xs, x, sq_lst h1, h3⟩
  stops := fun H2 ⟨S2, ow2, f, o, hk⟩ => by
    rw [enumD_len]
    obtain ⟨xs, h1, h2⟩ := ownA hS f o hk
    exact ⟨xs, sq_lst h1, Nat.le_of_eq h2.length⟩
  yields := fun i H2 x H3 hi _ y => by
    obtain ⟨T, x1, rfl, hT, rfl, y⟩ := y
    refine ⟨Evl.Ex.new hT, fun S2 ow2 f o hk => ?_⟩
    obtain ⟨xs, h1, h2⟩ := ownA hS f o hk
    obtain ⟨d, h3, h4⟩ := h2.get' (y xs (sq_lst h1))
    exact ⟨_, enumD_get h3, new_par o hT (.cons (.int _) (.cons h4 .nil))⟩
theorem pidi_own (h : PD X st ow e (.own k) ow1) (hk : ow1[k]? = some (.l l)) : PIDI X st ow tg e l ow1 (HoldsAt k l) := (pi_list h).imp fun σ H Q ⟨S, sl, o, q⟩ => ⟨S, sl, o, fun S1 v H1 f1 o1 d1 => by
  obtain ⟨a, xs, rfl, g1, g2, g3⟩ := own_sq o1 d1 hk
  exact ⟨a, rfl, ⟨xs, sq_lst g2⟩, q S1 H1 _ f1 o1 (wd_own g1)⟩⟩
theorem pidi_enumO {elts : List Expr} {kk : Nat} {tpos : Pos} (hm : X.mg "enumerate" = none) (ha : PD X st ow e (.own k) ow1) (hk : ow1[k]? = some (.l l)) (hg : Gl X "enumerate" := by rfl) (hs : starEach [e] X.env = [(false, eval e X.env)] := by rfl) :
    PIDI X st ow (.Tuple elts kk tpos) (.Call (.Name "enumerate" p) [e] [] pos) (enumD l) ow1 (HoldsAt k l) :=
  (pi_enum hg hm (pa_cons ha pa_nil hs) hs).imp fun σ H Q ⟨S, sl, o, q⟩ => ⟨S, sl, o, fun S1 v H1 f1 o1 d1 => by
    obtain ⟨a, xs, rfl, g1, g2, g3⟩ := own_sq o1 d1 hk
    exact ⟨a, xs, rfl, sq_lst g2, q S1 H1 _ f1 o1 (wd_enumO g1)⟩⟩
theorem _root_.Bl.wdi_of {K : PySem.W.Frag} {S : List Addr} {H : Hp} {J : It} {xs : List D} (h : WD K S H J xs) : WDI K S H J xs (fun _ => True) where
  goes := fun i H2 hi ⟨S2, ow2, f, o, _⟩ => h.goes i H2 hi ⟨S2, ow2, f, o⟩
  stops := fun H2 ⟨S2, ow2, f, o, _⟩ => h.stops H2 ⟨S2, ow2, f, o⟩
  yields := fun i H2 x H3 hi ⟨S2, ow2, f, o, _⟩ y => by
    obtain ⟨g1, g2⟩ := h.yields i H2 x H3 hi ⟨S2, ow2, f, o⟩ y
    exact ⟨g1, fun S2 ow2 f o _ => g2 S2 ow2 f o⟩
theorem pidi_of (h : PID X st ow tg e xs ow1) : PIDI X st ow tg e xs ow1 (fun _ => True) := h.imp fun σ H Q ⟨S, sl, o, q⟩ => ⟨S, sl, o, fun S1 H1 J f1 o1 w1 => q S1 H1 J f1 o1 (wdi_of w1)⟩
variable {body : List Stmt} {out : Out}
theorem psd_forK (vs : List Nat) (Iv : Nat → Sta) (Io : Nat → List OB) (m : Option Nat) (stm : Nat → Sta) (oo : Nat → Out) (hp : PassesOwn (model X.prog X.w) X.A X.env X.xe) (hc : X.calm = true) (I : List OB → Prop) (hi : PIDI X st ow tg iter xs ow1 I) (hI : ∀ i, I (Io i))
    (h0 : st.length = (Iv 0).length ∧ ∀ (i : Nat) r, (Iv 0)[i]? = some (some r) → st[i]? = some (some r)) (h0o : Io 0 = ow1)
    (hg : ∀ i d, xs[i]? = some d → (∀ k, m = some k → i ≤ k) → PGD X vs (Iv i) d tg (stm i))
    (hb : ∀ i d, xs[i]? = some d → (∀ k, m = some k → i ≤ k) → PBD X (stm i) (Io i) body (oo i))
    (ho : ∀ i, i < xs.length → (∀ k, m = some k → i ≤ k) → if m = some i then (match oo i with
      | .ret r w => out = .ret r w
      | .brk s w => out = .nx s w
      | _ => False) else Onw Iv Io i (oo i))
    (hend : match m with
      | none => out = .nx (Iv xs.length) (Io xs.length)
      | some k => k < xs.length)
    (hs : ∀ x, foldedSetIterable iter X.env x = pure x := by intro _; rfl) : PSD X st ow (.For tg iter body [] pos) out := by
  refine (ps_for (g := fTG X.K vs Iv stm xs m) (tb := fTS X.K stm Io oo xs m) hp hc hi (pg_ex (ι := FIx xs m) fun i => hg i.1.1 i.1.2 i.2.1 i.2.2) (pss_ex (ι := FIx xs m) fun i => hb i.1.1 i.1.2 i.2.1 i.2.2) hs).imp fun E σ H ⟨S, sl, o, k⟩ => ?_
  refine ⟨S, sl, o, fun S1 H1 J f1 o1 w1 => ?_⟩
  refine for_it (D := E) (g := fTG X.K vs Iv stm xs m) (tb := fTS X.K stm Io oo xs m) w1 (fun i σ' H' => (∀ k, m = some k → i ≤ k) ∧ ∃ S', Fwd S1 H1 S' H' ∧ Slots X.K S' H' σ' (Iv i) ∧ Owns X.K S' H' (Io i)) ⟨fun k _ => Nat.zero_le k, S1, .refl S1 H1, (f1.slots sl).weak h0.1 h0.2, by rw [h0o]; exact o1⟩ (fun i σ' H' hi ⟨_, S', f', _, o'⟩ => ⟨S', _, f', o', hI i⟩) (fun i x σ' H' H2 hi ⟨hm, S', f', sl', o'⟩ ⟨ex, y⟩ => ?_) (fun σ' H' ⟨hm, S', f', sl', o'⟩ => ?_)
  · obtain ⟨d, hd, dd⟩ := y S' _ f' o' (hI i)
    refine ⟨⟨(i, d), hd, hm⟩, S', (Fwd.of ex).slots sl', dd, fun σ2 sl2 _ => ⟨⟨(i, d), hd, hm⟩, S', sl2, o'.ex ex, ?_⟩⟩
    have f2 : Fwd S1 H1 S' H2 := f'.trans o' (.of ex)
    have hoi := ho i hi hm
    have f0 : Fwd S H S' H2 := f1.trans o1 f2
    by_cases he : m = some i
    · rw [if_pos he] at hoi
      show Goes X.K S' H2 _ (oo i)
      cases hoo : oo i with
      | nx s w => rw [hoo] at hoi; exact hoi.elim
      | ct s w => rw [hoo] at hoi; exact hoi.elim
      | ret r w =>
        rw [hoo] at hoi
        subst hoi
        exact fun S3 v H3 f3 o3 d3 => k S3 v H3 (f0.trans (o'.ex ex) f3) o3 d3
      | brk s w =>
        rw [hoo] at hoi
        subst hoi
        exact fun S3 σ3 H3 f3 sl3 o3 => k S3 σ3 H3 (f0.trans (o'.ex ex) f3) sl3 o3
    · rw [if_neg he] at hoi
      have hm1 : ∀ k, m = some k → i + 1 ≤ k := fun k hk => by
        have h1 := hm k hk
        have h2 : i ≠ k := fun e => he (by rw [e]; exact hk)
        omega
      show Goes X.K S' H2 _ (oo i)
      rcases hoi with e | e
      · rw [e]
        exact fun S3 σ3 H3 f3 sl3 o3 => ⟨hm1, S3, f2.trans (o'.ex ex) f3, sl3, o3⟩
      · rw [e]
        exact fun S3 σ3 H3 f3 sl3 o3 => ⟨hm1, S3, f2.trans (o'.ex ex) f3, sl3, o3⟩
  · cases m with
    | none =>
      have hend : out = .nx (Iv xs.length) (Io xs.length) := hend
      subst hend
      exact k S' σ' H' (f1.trans o1 f') sl' o'
    | some k0 =>
      have h1 := hm k0 rfl
      have h2 : k0 < xs.length := hend
      omega
end
end Bl
set_option Elab.async false
set_option linter.all false
set_option maxRecDepth 100000
set_option maxHeartbeats 4000000
namespace Bl
open PySem PySem.Spec PyProof.Rows L2
def topS (i : Nat) : Stmt := PySem.Challenge.pw_bentlines_k03_parts_and_order.main.body.getD i (.Pass ⟨0, 0, 0, 0⟩)
section
variable {X : Cx} {c : Expr} {tb rest : List Stmt} {st : Sta} {ow ow1 : List OB} {bl : Bool} {out : Out} {pos : Pos}
/-- an if that is not taken -/
theorem pbd_skip (hc : PTD X st ow c bl ow1) (hb : bl = false) (h : PBD X st ow1 rest out) : PBD X st ow (.If c tb [] pos :: rest) out := by
  subst hb
  exact pbd_cons (psd_if (out := .nx st ow1) hc (fun z => nomatch z) (fun _ => pbd_nil)) h
/-- an if that is taken, and leaves -/
theorem pbd_take (hc : PTD X st ow c bl ow1) (hb : bl = true) (h : PBD X st ow1 tb out) (hl : Leaves out := by trivial) : PBD X st ow (.If c tb [] pos :: rest) out := by
  subst hb
  exact pbd_last (psd_if hc (fun _ => h) (fun z => nomatch z)) hl
theorem pd_eqB {X : Cx} {e : Expr} {st : Sta} {ow ow1 : List OB} {q q' : Bool} (h : PD X st ow e (.d (.bl q)) ow1) (hx : q = q') : PD X st ow e (.d (.bl q')) ow1 := hx ▸ h
end
/-- a def of the top and what it is worth -/
def Fg (P : Program) (w : World) (K : PySem.W.Frag) (mg : Str → Option Value) (base : Heap) (xn : Str) (k : Nat) (ps : List Str) (g : GG) : Prop :=
  ∃ f fd, FnOk P w K mg base CX0 k f fd ps (spF K g) ∧ mg xn = some (.ref f) ∧ PySem.W.keepIn K (.ref f) = true ∧ Binds K fd ps []
section
variable {X : Cx} {e : Expr} {es : List Expr} {st : Sta} {ow ow1 ow2 : List OB} {rs : List R} {r : R} {p pos : Pos} {k j : Nat} {ps : List Str} {g : GG} {xn : Str}
theorem pd_cg (F : Fg X.prog X.w X.K X.mg X.base xn k ps g) (hr : Room j X.A) (hj : k ≤ j) (ha : PAD X st ow (e :: es) rs ow1) (hgg : g rs ow1 r ow2) (hg : Gl X xn := by rfl) (hdb : (xn == ("__debug__" : Str)) = false := by decide)
    (he : starEach (e :: es) X.env = (false, eval e X.env) :: starEach es X.env := by rfl) (hpl : (backTo pos (starEach es X.env)).any (·.1) = false := by rfl) : PD X st ow (.Call (.Name xn p) (e :: es) [] pos) r ow2 := by
  obtain ⟨f, fd, h1, h2, h3, h4⟩ := F
  exact pd_call h1 (hr.mono hj) h2 h3 h4 ha hgg hg hdb he hpl
end
section
variable {P : Program} {w : World} {K : PySem.W.Frag} {mg : Str → Option Value} {base : Heap} {f : Addr} {fd : FuncData} {k : Nat}
/-! ### is_int -/
def isI : D → Bool
  | .int _ => true
  | _ => false
abbrev sIsInt : Stmt := topS 10
theorem scIsInt : FnScope ["value"] ["value"] (defScope sIsInt) := ⟨rfl, rfl, rfl, by decide +kernel, rfl, by decide +kernel, by decide +kernel⟩
def gIsInt : GG := fun rs ow r ow' => ∃ d t, rs = [.d d] ∧ tyB d = some t ∧ r = .d (.bl (isI d)) ∧ ow' = ow
theorem ok_isInt (F : Fun K "is_int" "is_int" sIsInt f fd) (mI : mg "isinstance" = none) (m1 : mg "int" = none) (m2 : mg "bool" = none) : FnOk P w K mg base CX0 (k + 1) f fd ["value"] (spF K gIsInt) := by
  refine okF F scIsInt (fun rs ow r ow' h => ?_) (fun cdv A outer s H E hr rs ow r ow' h => ?_)
  · obtain ⟨d, t, rfl, _⟩ := h
    rfl
  · obtain ⟨d, t, rfl, ht, rfl, rfl⟩ := h
    obtain ⟨q1, q2, h1, h2, h3⟩ : ∃ q1 q2 : Bool, kitB t "int" = some q1 ∧ kitB t "bool" = some q2 ∧ (q1 && !q2) = isI d := by
      cases d <;> cases ht <;> first | exact ⟨false, false, by decide +kernel, by decide +kernel, rfl⟩ | exact ⟨true, false, by decide +kernel, by decide +kernel, rfl⟩ | exact ⟨true, true, by decide +kernel, by decide +kernel, rfl⟩
    exact pbd_last (psd_ret (pd_eqB (pd_and (rest := []) (pd_isB mI (padd_cons (pd_var 0) (padd_cons (pd_ty m1) padd_nil)) q1 ht h1) (fun _ => pd_one (pd_not (pd_isB mI (padd_cons (pd_var 0) (padd_cons (pd_ty m2) padd_nil)) q2 ht h2)))) h3))
/-! ### check_int -/
abbrev sCheckInt : Stmt := topS 11
theorem scCheckInt : FnScope ["value", "word", "least", "most"] ["value", "word", "least", "most"] (defScope sCheckInt) := ⟨rfl, rfl, rfl, by decide +kernel, rfl, by decide +kernel, by decide +kernel⟩
/-- a bound that n keeps -/
def OverB (n : Int) (d : D) : Prop := d = .non ∨ ∃ a, d = .int a ∧ a ≤ n
def UnderB (n : Int) (d : D) : Prop := d = .non ∨ ∃ a, d = .int a ∧ n ≤ a
def gCheckInt : GG := fun rs ow r ow' => ∃ n w lo hi, rs = [.d (.int n), .d (.str w), .d lo, .d hi] ∧ OverB n lo ∧ UnderB n hi ∧ r = .d (.int n) ∧ ow' = ow
theorem ok_checkInt (F : Fun K "check_int" "check_int" sCheckInt f fd) (C1 : Fg P w K mg base "is_int" k ["value"] gIsInt) : FnOk P w K mg base CX0 (k + 1) f fd ["value", "word", "least", "most"] (spF K gCheckInt) := by
  refine okF F scCheckInt (fun rs ow r ow' h => ?_) (fun cdv A outer s H E hr rs ow r ow' h => ?_)
  · obtain ⟨n, w, lo, hi, rfl, _⟩ := h
    rfl
  · obtain ⟨n, w, lo, hi, rfl, h1, h2, rfl, rfl⟩ := h
    refine pbd_skip (ptd_not (ptd_val (pd_cg C1 hr (Nat.le_refl _) (padd_cons (pd_var 0) padd_nil) ⟨.int n, "int", rfl, rfl, rfl, rfl⟩))) rfl ?_
    refine pbd_skip (ow1 := ow') (bl := false) ?_ rfl ?_
    · rcases h1 with rfl | ⟨a, rfl, ha⟩
      · exact ptd_eqB (ptd_bool (pwd_and (p := !nonD D.non) (q := false) (ptd_notN (pd_var 2) pd_non) (fun z => nomatch (show false = true from z)))) rfl
      · exact ptd_eqB (ptd_bool (pwd_and (ptd_notN (pd_var 2) pd_non) (fun _ => pwd_and1 (ptd_lt (pd_var 0) (pd_var 2))))) (by simp [nonD]; omega)
    refine pbd_skip (ow1 := ow') (bl := false) ?_ rfl ?_
    · rcases h2 with rfl | ⟨a, rfl, ha⟩
      · exact ptd_eqB (ptd_bool (pwd_and (p := !nonD D.non) (q := false) (ptd_notN (pd_var 3) pd_non) (fun z => nomatch (show false = true from z)))) rfl
      · exact ptd_eqB (ptd_bool (pwd_and (ptd_notN (pd_var 3) pd_non) (fun _ => pwd_and1 (ptd_gt (pd_var 0) (pd_var 3))))) (by simp [nonD]; omega)
    exact pbd_last (psd_ret (pd_var 0))
/-! ### choose -/
abbrev sChoose : Stmt := topS 12
theorem scChoose : FnScope ["n", "k"] ["n", "k"] (defScope sChoose) := ⟨rfl, rfl, rfl, by decide +kernel, rfl, by decide +kernel, by decide +kernel⟩
def chooseZ (n k : Int) : Int := if 0 ≤ k ∧ k ≤ n then PySem.W.mcComb n k else 0
def gChoose : GG := fun rs ow r ow' => ∃ n k : Int, rs = [.d (.int n), .d (.int k)] ∧ n ≤ 18000 ∧ r = .d (.int (chooseZ n k)) ∧ ow' = ow
theorem ok_choose (F : Fun K "choose" "choose" sChoose f fd) (C1 : Fg P w K mg base "check_int" k ["value", "word", "least", "most"] gCheckInt) (mC : mg "comb" = some (.builtin "math.comb")) : FnOk P w K mg base CX0 (k + 1) f fd ["n", "k"] (spF K gChoose) := by
  refine okF F scChoose (fun rs ow r ow' h => ?_) (fun cdv A outer s H E hr rs ow r ow' h => ?_)
  · obtain ⟨n, w, rfl, _⟩ := h
    rfl
  · obtain ⟨n, m, rfl, hn, rfl, rfl⟩ := h
    refine pbd_cons (psd_expr (pd_cg C1 hr (Nat.le_refl _) (padd_cons (pd_var 0) (padd_cons pd_str (padd_cons pd_non (padd_cons pd_non padd_nil)))) ⟨n, _, .non, .non, rfl, .inl rfl, .inl rfl, rfl, rfl⟩)) ?_
    refine pbd_cons (psd_expr (pd_cg C1 hr (Nat.le_refl _) (padd_cons (pd_var 1) (padd_cons pd_str (padd_cons pd_non (padd_cons pd_non padd_nil)))) ⟨m, _, .non, .non, rfl, .inl rfl, .inl rfl, rfl, rfl⟩)) ?_
    refine pbd_ifL (ptd_chain op_le op_le (rd_I0 rfl) (rd_I0 rfl) pd_int (pd_var 1) (pd_var 0)) (fun hb => ?_) trivial (fun hb => ?_)
    · have hb' : 0 ≤ m ∧ m ≤ n := by simpa using hb
      refine pbd_last (psd_ret ?_)
      unfold chooseZ
      rw [if_pos hb']
      exact pd_comb mC (padd_cons (pd_var 0) (padd_cons (pd_var 1) padd_nil)) ⟨by omega, hb'.1, hn⟩
    · have hb' : ¬ (0 ≤ m ∧ m ≤ n) := by simpa using hb
      unfold chooseZ
      rw [if_neg hb']
      exact pbd_last (psd_ret pd_int)
/-! ### check_size, check_line -/
abbrev sCheckSize : Stmt := topS 15
theorem scCheckSize : FnScope ["size"] ["size"] (defScope sCheckSize) := ⟨rfl, rfl, rfl, by decide +kernel, rfl, by decide +kernel, by decide +kernel⟩
def gCheckSize : GG := fun rs ow r ow' => ∃ n : Int, rs = [.d (.int n)] ∧ 1 ≤ n ∧ n ≤ 16 ∧ r = .d (.int n) ∧ ow' = ow
theorem ok_checkSize {tk : Tok} (F : Fun K "check_size" "check_size" sCheckSize f fd) (C1 : Fg P w K mg base "check_int" k ["value", "word", "least", "most"] gCheckInt) (mM : mg "MOST_LINES" = some (.int 16 tk)) : FnOk P w K mg base CX0 (k + 1) f fd ["size"] (spF K gCheckSize) := by
  refine okF F scCheckSize (fun rs ow r ow' h => ?_) (fun cdv A outer s H E hr rs ow r ow' h => ?_)
  · obtain ⟨n, rfl, _⟩ := h
    rfl
  · obtain ⟨n, rfl, h1, h2, rfl, rfl⟩ := h
    exact pbd_last (psd_ret (pd_cg C1 hr (Nat.le_refl _) (padd_cons (pd_var 0) (padd_cons pd_str (padd_cons pd_int (padd_cons (pd_glob (v := .int 16) rfl mM ⟨tk, rfl⟩ rfl) padd_nil)))) ⟨n, _, .int 1, .int 16, rfl, .inr ⟨1, rfl, h1⟩, .inr ⟨16, rfl, h2⟩, rfl, rfl⟩))
abbrev sCheckLine : Stmt := topS 16
theorem scCheckLine : FnScope ["line", "size"] ["line", "size"] (defScope sCheckLine) := ⟨rfl, rfl, rfl, by decide +kernel, rfl, by decide +kernel, by decide +kernel⟩
def gCheckLine : GG := fun rs ow r ow' => ∃ n m : Int, rs = [.d (.int n), .d (.int m)] ∧ 0 ≤ n ∧ n < m ∧ r = .d (.int n) ∧ ow' = ow
theorem ok_checkLine (F : Fun K "check_line" "check_line" sCheckLine f fd) (C1 : Fg P w K mg base "is_int" k ["value"] gIsInt) : FnOk P w K mg base CX0 (k + 1) f fd ["line", "size"] (spF K gCheckLine) := by
  refine okF F scCheckLine (fun rs ow r ow' h => ?_) (fun cdv A outer s H E hr rs ow r ow' h => ?_)
  · obtain ⟨n, m, rfl, _⟩ := h
    rfl
  · obtain ⟨n, m, rfl, h1, h2, rfl, rfl⟩ := h
    refine pbd_skip (ptd_bool (pwd_or (ptd_not (ptd_val (pd_cg C1 hr (Nat.le_refl _) (padd_cons (pd_var 0) padd_nil) ⟨.int n, "int", rfl, rfl, rfl, rfl⟩))) (fun _ => pwd_or1 (ptd_not (ptd_chain op_le op_lt (rd_I0 rfl) (rd_I0 rfl) pd_int (pd_var 0) (pd_var 1)))))) (by simp [isI]; omega) ?_
    exact pbd_last (psd_ret (pd_var 0))
/-! ### is_sign, changes -/
abbrev sIsSign : Stmt := topS 26
theorem scIsSign : FnScope ["value"] ["value"] (defScope sIsSign) := ⟨rfl, rfl, rfl, by decide +kernel, rfl, by decide +kernel, by decide +kernel⟩
def isSg : D → Bool
  | .int n => decide (-1 ≤ n) && decide (n ≤ 1)
  | _ => false
def gIsSign : GG := fun rs ow r ow' => ∃ d t, rs = [.d d] ∧ tyB d = some t ∧ r = .d (.bl (isSg d)) ∧ ow' = ow
theorem ok_isSign (F : Fun K "is_sign" "is_sign" sIsSign f fd) (C1 : Fg P w K mg base "is_int" k ["value"] gIsInt) : FnOk P w K mg base CX0 (k + 1) f fd ["value"] (spF K gIsSign) := by
  refine okF F scIsSign (fun rs ow r ow' h => ?_) (fun cdv A outer s H E hr rs ow r ow' h => ?_)
  · obtain ⟨d, t, rfl, _⟩ := h
    rfl
  · obtain ⟨d, t, rfl, ht, rfl, rfl⟩ := h
    refine pbd_last (psd_ret ?_)
    cases hd : isI d with
    | true =>
      cases d <;> cases hd
      exact pd_and (rest := []) (p := true) (pd_cg C1 hr (Nat.le_refl _) (padd_cons (pd_var 0) padd_nil) ⟨_, t, rfl, ht, rfl, rfl⟩) (fun _ => pd_one (pd_chain op_le op_le (rd_I0 rfl) (rd_I0 rfl) (pd_neg pd_int) (pd_var 0) pd_int))
    | false =>
      have e : isSg d = (false && false) := by cases d <;> first | rfl | cases hd
      rw [e]
      exact pd_and (rest := []) (p := false) (pd_cg C1 hr (Nat.le_refl _) (padd_cons (pd_var 0) padd_nil) ⟨d, t, rfl, ht, by rw [hd], rfl⟩) (fun z => nomatch z)
abbrev sChanges : Stmt := topS 28
theorem scChanges : FnScope ["row", "a", "b", "c", "d"] ["row"] (defScope sChanges) := ⟨rfl, rfl, rfl, by decide +kernel, rfl, by decide +kernel, by decide +kernel⟩
def chg (a b c d : Int) : Int := b2 (!decide (V.int a = V.int b)) + b2 (!decide (V.int b = V.int c)) + b2i (!decide (V.int c = V.int d))
def gChanges : GG := fun rs ow r ow' => ∃ (x : D) (a b c d : Int), rs = [.d x] ∧ tupL x = some [.int a, .int b, .int c, .int d] ∧ r = .d (.int (chg a b c d)) ∧ ow' = ow
theorem ok_changes (F : Fun K "changes" "changes" sChanges f fd) : FnOk P w K mg base CX0 (k + 1) f fd ["row"] (spF K gChanges) := by
  refine okF F scChanges (fun rs ow r ow' h => ?_) (fun cdv A outer s H E hr rs ow r ow' h => ?_)
  · obtain ⟨x, a, b, c, d, rfl, _⟩ := h
    rfl
  · obtain ⟨x, a, b, c, d, rfl, hx, rfl, rfl⟩ := h
    refine pbd_cons (psd_asgT (vs := [1, 2, 3, 4]) (pd_var 0) (pgd_tup rfl (pgsd_cons (pgd_name 1 scChanges.nd) (pgsd_cons (pgd_name 2 scChanges.nd) (pgsd_cons (pgd_name 3 scChanges.nd) (pgsd_cons (pgd_name 4 scChanges.nd) pgsd_nil)))) hx)) ?_
    exact pbd_last (psd_ret (pd_addIB (pd_addBB (pd_ne (pd_var 1) (pd_var 2)) (pd_ne (pd_var 2) (pd_var 3))) (pd_ne (pd_var 3) (pd_var 4))))
end
end Bl
set_option Elab.async false
set_option linter.all false
set_option maxRecDepth 100000
set_option maxHeartbeats 4000000
namespace Bl
open PySem PySem.Spec PyProof.Rows L2
open Sem (wp)
/-! ### a zip over any two drawers, while the pair it gave out before is still there -/
section
variable {prog : Program} {w : World} {A : Around} {E : Value → Shared → Prop} {s : Shared} {z TI TO T i1 i2 : Addr} {f1 f2 : List Addr} {n1 n2 i : Nat} {P1 P2 : Nat → Value → Prop} {S1 S2 : Nat → Heap → Prop} {fl : Bool} {oT : Obj}
/-- the state of such a zip -/
structure ZH (S1 S2 : Nat → Heap → Prop) (z TI TO T i1 i2 : Addr) (fl : Bool) (i : Nat) (h : Heap) : Prop where
  zz : IsZipHeld h z TI TO T fl
  ti : IsTupOf2 h TI (.ref i1) (.ref i2)
  a : S1 i h
  b : S2 i h
theorem zh_item {Q : Value → Shared → Prop} (Z : ZipSep2 z TI TO i1 i2 f1 f2) (G1 : Draws prog w A i1 f1 n1 P1 S1) (G2 : Draws prog w A i2 f2 n2 P2 S2) (st : ZH S1 S2 z TI TO T i1 i2 fl i s.heap) (hT : s.heap.get? T = some oT) (l1 : i < n1) (l2 : i < n2)
    (hQ : ∀ x y h' tk, P1 i x → P2 i y → IsZipHeld h' z TI TO T true → S1 (i + 1) h' → S2 (i + 1) h' → IsTupOf2 h' s.heap.objs.size x y → h'.objs.size = s.heap.objs.size + 1 → (∀ c o, c ≠ z → c ≠ i1 → c ≠ i2 → s.heap.get? c = some o → h'.get? c = some o) → Q (.ref s.heap.objs.size) { s with heap := h', toks := tk }) :
    wpAny (model prog w) A (Builtin.«zip.__next__» ⟨[.ref z], []⟩) (fun fin s' => ∃ v, fin = .done (.ret v) ∧ Q v s') E s := by
  obtain ⟨hp, g, d, tk0, os⟩ := s
  obtain ⟨hz, hTI, s1, s2⟩ := st
  show wpAny _ _ (field (.ref z) 2 >>= _) _ _ ⟨hp, g, d, tk0, os⟩
  refine wpAny_bind (wpAny_field hz rfl (x := .bool false) rfl (show wpAny _ _ (field (.ref z) 3 >>= _) _ _ ⟨hp, g, d, tk0, os⟩ from wpAny_bind (wpAny_field hz rfl (x := .ref TI) rfl (wpAny_bind (wpAny_seqItems hTI rfl ?_)))))
  show wpAny _ _ (Builtin.SmallTypes.ownedTupleIsFree (.ref z) >>= _) _ _ ⟨hp, g, d, tk0, os⟩
  refine wpAny_bind (wpAny_tupleHeld_zip hz hT fun ha za ka => ?_)
  replace ka : Heap.SameBut z hp ha := ka
  simp only [Bool.false_eq_true, if_false]
  refine wpAny_bind ?_
  rw [← Array.forIn_toList]
  simp only [List.forIn_cons, List.forIn_nil]
  refine wpAny_bind (wpAny_bind (wpAny_holding ?_))
  show wpAny _ _ (Builtin.SmallTypes.nextOf (.ref i1) >>= _) _ _ ⟨ha, g, d, tk0, os⟩
  refine wpAny_bind (G1.item i _ _ _ l1 (G1.over s1 ka Z.zf1) fun x hb tk1 px sb kb => wpAny_pure (wpAny_pure (wpAny_bind (wpAny_bind (wpAny_holding ?_)))))
  replace kb : Heap.SameBut i1 ha hb := kb
  show wpAny _ _ (Builtin.SmallTypes.nextOf (.ref i2) >>= _) _ _ ⟨hb, g, d, tk1, os⟩
  refine wpAny_bind (G2.item i _ _ _ l2 (G2.over (G2.over s2 ka Z.zf2) kb Z.sep1_2) fun y hc tk2 py sc kc => wpAny_pure (wpAny_pure (wpAny_pure ?_)))
  replace kc : Heap.SameBut i2 hb hc := kc
  have hsz : hc.objs.size = hp.objs.size := by rw [kc.1, kb.1, ka.1]
  have old : ∀ c o, c ≠ z → c ≠ i1 → c ≠ i2 → hp.get? c = some o → hc.get? c = some o := fun c o c1 c2 c3 e => kc.extBut _ _ c3 (kb.extBut _ _ c2 (ka.extBut _ _ c1 e))
  have zc : IsZipHeld hc z TI TO T true := kc.extBut _ _ Z.zi2 (kb.extBut _ _ Z.zi1 za)
  have s1c : S1 (i + 1) hc := G1.over sb kc Z.sep2_1
  have up : ∀ c o, hc.get? c = some o → (hc.push { cls := .type "tuple", data := .seq #[x, y] }).get? c = some o := fun c o e => Heap.get?_push_of_some _ e
  refine (show wpAny _ _ (newTuple [x, y] >>= _) _ _ ⟨hc, g, d, tk2, os⟩ from wpAny_bind (wpAny_newTuple (wpAny_pure ⟨_, rfl, ?_⟩)))
  have key := hQ x y (hc.push { cls := .type "tuple", data := .seq #[x, y] }) tk2 px py (up _ _ zc) (G1.frame _ _ _ s1c fun b _ o e => up b o e) (G2.frame _ _ _ sc fun b _ o e => up b o e)
  rw [← hsz] at key
  exact key (Heap.get?_push_size _ rfl) (Heap.size_push ..) fun c o c1 c2 c3 e => up c o (old c o c1 c2 c3 e)
theorem zh_end {Q : Fin → Shared → Prop} (Z : ZipSep2 z TI TO i1 i2 f1 f2) (G1 : Draws prog w A i1 f1 n1 P1 S1) (G2 : Draws prog w A i2 f2 n2 P2 S2) (st : ZH S1 S2 z TI TO T i1 i2 fl i s.heap) (hT : s.heap.get? T = some oT) (l1 : i ≤ n1) (l2 : i ≤ n2) (he : i = n1 ∨ i = n2)
    (hE : ∀ h' tk e, (∀ c o, c ≠ z → c ≠ i1 → c ≠ i2 → s.heap.get? c = some o → h'.get? c = some o) → (∃ o, h'.get? e = some o ∧ o.cls = .type "StopIteration") → E (.ref e) { s with heap := h', toks := tk }) :
    wpAny (model prog w) A (Builtin.«zip.__next__» ⟨[.ref z], []⟩) Q E s := by
  obtain ⟨hp, g, d, tk0, os⟩ := s
  obtain ⟨hz, hTI, s1, s2⟩ := st
  show wpAny _ _ (field (.ref z) 2 >>= _) _ _ ⟨hp, g, d, tk0, os⟩
  refine wpAny_bind (wpAny_field hz rfl (x := .bool false) rfl (show wpAny _ _ (field (.ref z) 3 >>= _) _ _ ⟨hp, g, d, tk0, os⟩ from wpAny_bind (wpAny_field hz rfl (x := .ref TI) rfl (wpAny_bind (wpAny_seqItems hTI rfl ?_)))))
  show wpAny _ _ (Builtin.SmallTypes.ownedTupleIsFree (.ref z) >>= _) _ _ ⟨hp, g, d, tk0, os⟩
  refine wpAny_bind (wpAny_tupleHeld_zip hz hT fun ha za ka => ?_)
  replace ka : Heap.SameBut z hp ha := ka
  simp only [Bool.false_eq_true, if_false]
  refine wpAny_bind ?_
  rw [← Array.forIn_toList]
  simp only [List.forIn_cons, List.forIn_nil]
  refine wpAny_bind (wpAny_bind (wpAny_holding ?_))
  show wpAny _ _ (Builtin.SmallTypes.nextOf (.ref i1) >>= _) _ _ ⟨ha, g, d, tk0, os⟩
  by_cases hlt : i < n1
  · refine wpAny_bind (G1.item i _ _ _ hlt (G1.over s1 ka Z.zf1) fun x hb tk1 px sb kb => wpAny_pure (wpAny_pure (wpAny_bind (wpAny_bind (wpAny_holding ?_)))))
    replace kb : Heap.SameBut i1 ha hb := kb
    show wpAny _ _ (Builtin.SmallTypes.nextOf (.ref i2) >>= _) _ _ ⟨hb, g, d, tk1, os⟩
    have hi : i = n2 := by omega
    refine wpAny_bind (G2.done _ _ _ (by rw [← hi]; exact G2.over (G2.over s2 ka Z.zf2) kb Z.sep1_2) fun hc e kc te => ?_)
    exact hE hc tk1 e (fun c o c1 c2 c3 x => kc _ _ c3 (kb.extBut _ _ c2 (ka.extBut _ _ c1 x))) te
  · have hi : i = n1 := by omega
    refine wpAny_bind (G1.done _ _ _ (by rw [← hi]; exact G1.over s1 ka Z.zf1) fun hc e kc te => ?_)
    exact hE hc tk0 e (fun c o c1 c2 c3 x => kc _ _ c2 (ka.extBut _ _ c1 x)) te
theorem zh_next {Q : Option Value → Shared → Prop} (Z : ZipSep2 z TI TO i1 i2 f1 f2) (G1 : Draws prog w A.in1 i1 f1 n1 P1 S1) (G2 : Draws prog w A.in1 i2 f2 n2 P2 S2) (st : ZH S1 S2 z TI TO T i1 i2 fl i s.heap) (hT : s.heap.get? T = some oT) (l1 : i < n1) (l2 : i < n2)
    (hQ : ∀ x y h' tk, P1 i x → P2 i y → IsZipHeld h' z TI TO T true → S1 (i + 1) h' → S2 (i + 1) h' → IsTupOf2 h' s.heap.objs.size x y → h'.objs.size = s.heap.objs.size + 1 → (∀ c o, c ≠ z → c ≠ i1 → c ≠ i2 → s.heap.get? c = some o → h'.get? c = some o) → Q (some (.ref s.heap.objs.size)) { s with heap := h', toks := tk }) :
    wpAny (model prog w) A (pyNext (.ref z)) Q E s := by
  have ty : s.TypeIs (.ref z) "zip" := ⟨_, st.zz, rfl⟩
  unfold pyNext
  exact wpAny_bind (wpAny_attempt (wpAny_callSpecial?_slot (name := Str.ofString "__next__") ty F.slot_zip_next (wpAny_call_entry F.slot_zip_next ty F.entry_zip_next (zh_item Z G1 G2 st hT l1 l2 fun x y h' tk q1 q2 q3 q4 q5 q6 q7 q8 => wpAny_pure (hQ x y h' tk q1 q2 q3 q4 q5 q6 q7 q8)) (F.args_zip_next_1 _))))
theorem zh_stop {Q : Option Value → Shared → Prop} (Z : ZipSep2 z TI TO i1 i2 f1 f2) (G1 : Draws prog w A.in1 i1 f1 n1 P1 S1) (G2 : Draws prog w A.in1 i2 f2 n2 P2 S2) (st : ZH S1 S2 z TI TO T i1 i2 fl i s.heap) (hT : s.heap.get? T = some oT) (l1 : i ≤ n1) (l2 : i ≤ n2) (he : i = n1 ∨ i = n2)
    (hQ : ∀ h' tk, (∀ c o, c ≠ z → c ≠ i1 → c ≠ i2 → s.heap.get? c = some o → h'.get? c = some o) → Q none { s with heap := h', toks := tk }) :
    wpAny (model prog w) A (pyNext (.ref z)) Q E s := by
  have ty : s.TypeIs (.ref z) "zip" := ⟨_, st.zz, rfl⟩
  unfold pyNext
  refine wpAny_bind (wpAny_attempt (wpAny_callSpecial?_slot (name := Str.ofString "__next__") ty F.slot_zip_next (wpAny_call_entry F.slot_zip_next ty F.entry_zip_next (zh_end Z G1 G2 st hT l1 l2 he fun h' tk e k ⟨o, ho, hc⟩ => ?_) (F.args_zip_next_1 _))))
  exact wpAny_bind (wpAny_isInstance (T := "StopIteration") (b := true) ⟨o, ho, hc⟩ isSubtype_stop (wpAny_pure (hQ _ _ k)))
end
section
variable {prog : Program} {w : World} {z TI TO i1 i2 : Addr} {f1 f2 : List Addr} {n1 n2 : Nat} {P1 P2 : Nat → Value → Prop} {S1 S2 : Nat → Heap → Prop}
/-- where a zip stands that gave out nothing so far -/
structure ZNew (S1 S2 : Nat → Heap → Prop) (z TI TO i1 i2 : Addr) (fs : List Addr) (h : Heap) : Prop where
  zz : IsZip h z TI TO .none
  ti : IsTupOf2 h TI (.ref i1) (.ref i2)
  to : ∃ a b, IsTupOf2 h TO a b
  a : S1 0 h
  b : S2 0 h
  all : ∀ c ∈ fs, ∃ o, h.get? c = some o
/-- the turns of such a zip while the dict at d grows -/
def ZTurn (S1 S2 : Nat → Heap → Prop) (z TI TO i1 i2 d : Addr) (i : Nat) (h : Heap) : Prop :=
  (IsZip h z TI TO .none ∧ IsTupOf2 h TI (.ref i1) (.ref i2) ∧ (∃ a b, IsTupOf2 h TO a b) ∧ S1 i h ∧ S2 i h) ∨ ∃ T fl oT, ZH S1 S2 z TI TO T i1 i2 fl i h ∧ h.get? T = some oT ∧ T ≠ z ∧ T ≠ i1 ∧ T ≠ i2 ∧ T ≠ d
theorem zip_arg {A0 : Around} (hA0 : A0.handled = none) (Z : ZipSep2 z TI TO i1 i2 f1 f2) (G1 : ∀ A : Around, A.handled = none → Draws prog w A i1 f1 n1 P1 S1) (G2 : ∀ A : Around, A.handled = none → Draws prog w A i2 f2 n2 P2 S2) :
    PairArg prog w "zip" z (z :: TI :: TO :: (f1 ++ f2)) [z, TO, i1, i2] (min n1 n2) (fun i k v => P1 i k ∧ P2 i v) (ZNew S1 S2 z TI TO i1 i2 (f1 ++ f2)) where
  type := fun s ok => ⟨_, ok.zz, rfl⟩
  notDict := by decide
  keep := fun h h' ok hk => by
    obtain ⟨q1, q2, ⟨a, b, q3⟩, q4, q5, q6⟩ := ok
    refine ⟨hk _ _ q1, hk _ _ q2, ⟨a, b, hk _ _ q3⟩, ?_, ?_, fun c hc => (q6 c hc).elim fun o e => ⟨o, hk _ _ e⟩⟩
    · exact (G1 A0 hA0).frame _ _ _ q4 fun b _ o e => hk b o e
    · exact (G2 A0 hA0).frame _ _ _ q5 fun b _ o e => hk b o e
  there := fun h ok b hb => by
    obtain ⟨q1, q2, ⟨a, c, q3⟩, q4, q5, q6⟩ := ok
    rcases List.mem_cons.mp hb with rfl | hb
    · exact ⟨_, q1⟩
    rcases List.mem_cons.mp hb with rfl | hb
    · exact ⟨_, q2⟩
    rcases List.mem_cons.mp hb with rfl | hb
    · exact ⟨_, q3⟩
    · exact q6 b hb
  sub := fun b hb => by
    have h1 := Z.mem1
    have h2 := Z.mem2
    simp only [List.mem_cons, List.not_mem_nil, or_false] at hb
    rcases hb with rfl | rfl | rfl | rfl <;> simp [h1, h2]
  noKeys := fun A s Q E hA ok h => getAttrOr_miss_zip ok.zz rfl rfl rfl zip_no_keys (by decide +kernel) hA h
  iter := fun A s d Q E hA ok hd hdf k => by
    obtain ⟨q1, q2, q3, q4, q5, q6⟩ := ok
    have dz : d ≠ z := fun e => hdf (by rw [e]; exact List.mem_cons_self)
    have dI : d ≠ TI := fun e => hdf (by rw [e]; exact List.mem_cons_of_mem _ List.mem_cons_self)
    have dO : d ≠ TO := fun e => hdf (by rw [e]; exact List.mem_cons_of_mem _ (List.mem_cons_of_mem _ List.mem_cons_self))
    have d1 : ∀ c ∈ f1, d ≠ c := fun c hc e => hdf (by rw [e]; exact List.mem_cons_of_mem _ (List.mem_cons_of_mem _ (List.mem_cons_of_mem _ (List.mem_append_left _ hc))))
    have d2 : ∀ c ∈ f2, d ≠ c := fun c hc e => hdf (by rw [e]; exact List.mem_cons_of_mem _ (List.mem_cons_of_mem _ (List.mem_cons_of_mem _ (List.mem_append_right _ hc))))
    have H1 := G1 A.in1 hA
    have H2 := G2 A.in1 hA
    refine wpAny_pyIter_zip q1 (k z [z, TO, i1, i2] (ZTurn S1 S2 z TI TO i1 i2 d) s.heap s.toks ?_ (.inl ⟨q1, q2, q3, q4, q5⟩) (fun _ _ e => e) fun b hb => .inl hb)
    exact {
      off := fun hm => by
        simp only [List.mem_cons, List.not_mem_nil, or_false] at hm
        rcases hm with e | e | e | e
        · exact dz e
        · exact dO e
        · exact d1 _ Z.mem1 e
        · exact d2 _ Z.mem2 e
      frame := fun i ha hb st hk => by
        have fa : S1 i ha → S1 i hb := fun x => H1.frame _ _ _ x fun c hc o e => hk c o (d1 c hc).symm e
        have fb : S2 i ha → S2 i hb := fun x => H2.frame _ _ _ x fun c hc o e => hk c o (d2 c hc).symm e
        rcases st with ⟨r1, r2, ⟨a, b, r3⟩, r4, r5⟩ | ⟨T, fl, oT, ⟨r1, r2, r4, r5⟩, r6, t1, t2, t3, t4⟩
        · exact .inl ⟨hk _ _ dz.symm r1, hk _ _ dI.symm r2, ⟨a, b, hk _ _ dO.symm r3⟩, fa r4, fb r5⟩
        · exact .inr ⟨T, fl, oT, ⟨hk _ _ dz.symm r1, hk _ _ dI.symm r2, fa r4, fb r5⟩, hk _ _ t4 r6, t1, t2, t3, t4⟩
      item := fun i s1 Q1 E1 hi st hds kq => by
        have hi1 : i < n1 := by omega
        have hi2 : i < n2 := by omega
        have lt : ∀ {c o}, s1.heap.get? c = some o → s1.heap.objs.size ≠ c := fun e => Nat.ne_of_gt (Heap.lt_size e)
        rcases st with ⟨r1, r2, ⟨a, b, r3⟩, r4, r5⟩ | ⟨T, fl, oT, st, r6, t1, t2, t3, t4⟩
        · have m1 : s1.heap.objs.size ≠ i1 := (H1.live _ _ r4).elim fun _ e => lt e
          have m2 : s1.heap.objs.size ≠ i2 := (H2.live _ _ r5).elim fun _ e => lt e
          refine wpAny_pyNext_zipD2_item Z H1 H2 r1 r2 r3 r4 r5 hi1 hi2 fun x y h' tk px py z' _ sa sb hp _ old => ?_
          exact kq s1.heap.objs.size x y h' tk ⟨px, py⟩ (.inl ⟨_, hp, rfl, _, rfl⟩) (.inr ⟨s1.heap.objs.size, false, _, ⟨z', old _ _ Z.TIz Z.TITO Z.TIi1 Z.TIi2 r2, sa, sb⟩, hp, lt r1, m1, m2, Nat.ne_of_gt hds⟩)
            fun c o hc e => old c o (fun q => hc (by simp [q])) (fun q => hc (by simp [q])) (fun q => hc (by simp [q])) (fun q => hc (by simp [q])) e
        · refine zh_next Z H1 H2 st r6 hi1 hi2 fun x y h' tk px py z' sa sb hp _ old => ?_
          exact kq s1.heap.objs.size x y h' tk ⟨px, py⟩ (.inl ⟨_, hp, rfl, _, rfl⟩) (.inr ⟨T, true, oT, ⟨z', old _ _ Z.TIz Z.TIi1 Z.TIi2 st.ti, sa, sb⟩, old _ _ t1 t2 t3 r6, t1, t2, t3, t4⟩)
            fun c o hc e => old c o (fun q => hc (by simp [q])) (fun q => hc (by simp [q])) (fun q => hc (by simp [q])) e
      done := fun s1 Q1 E1 st kq => by
        rcases st with ⟨r1, r2, ⟨a, b, r3⟩, r4, r5⟩ | ⟨T, fl, oT, st, r6, t1, t2, t3, t4⟩
        · exact wpAny_pyNext_zipD2_end Z H1 H2 r1 r2 r3 r4 r5 (by omega) (by omega) (by omega) fun h' tk old => kq h' tk fun c o hc e => old c o (fun q => hc (by simp [q])) (fun q => hc (by simp [q])) (fun q => hc (by simp [q])) (fun q => hc (by simp [q])) e
        · exact zh_stop Z H1 H2 st r6 (by omega) (by omega) (by omega) fun h' tk old => kq h' tk fun c o hc e => old c o (fun q => hc (by simp [q])) (fun q => hc (by simp [q])) (fun q => hc (by simp [q])) e }
end
end Bl
set_option Elab.async false
set_option linter.all false
set_option maxRecDepth 100000
set_option maxHeartbeats 4000000
namespace Bl
open PySem PySem.Spec PyProof.Rows L2
/-! ### dict(zip(xs, t)), the keys tuples -/
theorem atKey_nil_of {K : Type} [DecidableEq K] {xs : List (K × Addr × Value)} {k : K} (h : k ∉ xs.map (·.1)) : atKey xs k = none := by
  unfold atKey
  rw [Option.map_eq_none_iff, List.find?_eq_none]
  intro x hx e
  exact h (List.mem_map.mpr ⟨x, hx, of_decide_eq_true e⟩)
theorem storedAll_new {K : Type} [DecidableEq K] : ∀ (ps acc : List (K × Addr × Value)), ((acc ++ ps).map (·.1)).Nodup → storedAllH acc ps = acc ++ ps
  | [], acc, _ => by rw [List.append_nil]; rfl
  | p :: ps, acc, h => by
    have e : storedAllH acc (p :: ps) = storedAllH (storedH acc p.1 p.2.1 p.2.2) ps := rfl
    have hn : p.1 ∉ acc.map (·.1) := by
      rw [List.map_append, List.map_cons] at h
      intro hm
      exact (List.nodup_append.mp h).2.2 _ hm _ List.mem_cons_self rfl
    rw [e, storedH_new (atKey_nil_of hn), storedAll_new ps (acc ++ [p]) (by rw [List.append_assoc]; exact h), List.append_assoc]
    rfl
def IsKT (H : Hp) (x : V) (k : List Key) : Prop := ∃ t, x = .ref t ∧ H t = some (.tup (k.map kV))
def tDZ (K : PySem.W.Frag) (ta : TA) : TE := fun σ H Q => ta σ H fun vs H1 => ∃ a b xs ys ks, vs = [.ref a, .ref b] ∧ SqL K H1 a xs ∧ SqT K H1 b ys ∧ xs.length = ys.length ∧ Paired (IsKT H1) xs ks ∧ ks.Nodup ∧ ∀ p, H1 p = none → Q (.ref p) (upd H1 p (.dT (ks.zip ys)))
theorem paired_len {α β : Type} {F : α → β → Prop} : ∀ {l : List α} {m : List β}, Paired F l m → l.length = m.length
  | _, _, .nil => rfl
  | _, _, .cons _ t => congrArg (· + 1) (paired_len t)
theorem paired_imp {α β : Type} {F G : α → β → Prop} (h : ∀ a b, F a b → G a b) : ∀ {l : List α} {m : List β}, Paired F l m → Paired G l m
  | _, _, .nil => .nil
  | _, _, .cons p t => .cons (h _ _ p) (paired_imp h t)
/-- the keys, their addresses and the values, told as the dict's entries -/
theorem entries_of {H : Hp} : ∀ {xs : List V} {ks : List (List Key)} {ys : List V} {its its2 : List Value}, Paired (IsKT H) xs ks → Vals xs its → Vals ys its2 → xs.length = ys.length →
    ∃ ps : List (List Key × Addr × Value), ps.map (·.1) = ks ∧ ps.length = its.length ∧ its2.length = its.length ∧ (∀ (i : Nat) (key v : Value), its[i]? = some key → its2[i]? = some v → ∃ k b, ps[i]? = some (k, b, v) ∧ key = .ref b) ∧ KT H (ks.zip ys) ps
  | _, _, [], _, _, .nil, .nil, .nil, _ => ⟨[], rfl, rfl, rfl, fun i key v e => by simp at e, .nil⟩
  | _, _, y :: ys, _, _, .cons hk t, .cons r1 t1, .cons r2 t2, hl => by
    obtain ⟨ps, e1, e2, e3, e4, e5⟩ := entries_of t t1 t2 (by simpa using hl)
    obtain ⟨b, rfl, hb⟩ := hk
    cases r1
    refine ⟨(_, b, _) :: ps, by rw [List.map_cons, e1], by rw [List.length_cons, List.length_cons, e2], by rw [List.length_cons, List.length_cons, e3], fun i key v g1 g2 => ?_, .cons ⟨rfl, hb, r2⟩ e5⟩
    cases i with
    | zero =>
      cases g1
      cases g2
      exact ⟨_, b, rfl, rfl⟩
    | succ i => exact e4 i key v g1 g2
  | _, _, [], _, _, .cons _ _, _, _, hl => by simp at hl
  | _, _, _ :: _, _, _, .nil, _, _, hl => by simp at hl
theorem kt_keys {H : Hp} {P : Program} {w : World} {h : Heap} (ok : HOk P w H h) : ∀ {kvs : List (List Key × V)} {ps : List (List Key × Addr × Value)}, KT H kvs ps → ∀ x ∈ ps, (tupleKind (mixKind P w)).is h x.1 x.2.1 ∧ H x.2.1 ≠ none
  | _, _, .nil, x, hx => nomatch hx
  | _, _, .cons hq t, x, hx => by
    rcases List.mem_cons.mp hx with rfl | hx
    · exact ⟨key_of ok (by rw [← hq.1]; exact hq.2.1), by rw [hq.2.1]; exact fun z => nomatch z⟩
    · exact kt_keys ok t x hx
theorem pe_dictZip {X : Cx} {e1 e2 : Expr} {ta : TA} {p p2 pos pos2 : Pos} (hc : X.calm = true) (hu : X.A.units + 64 < cLine) (hm : X.mg "dict" = none) (hmz : X.mg "zip" = none) (ha : PA X [e1, e2] ta) (hg : Gl X "dict" := by rfl) (hgz : Gl X "zip" := by rfl)
    (hs : starEach [e1, e2] X.env = (false, eval e1 X.env) :: starEach [e2] X.env := by rfl) (hpl : (backTo pos2 (starEach [e2] X.env)).any (·.1) = false := by rfl)
    (na : starEach [.Call (.Name "zip" p2) [e1, e2] [] pos2] X.env = (false, eval (.Call (.Name "zip" p2) [e1, e2] [] pos2) X.env) :: starEach [] X.env := by rfl) :
    PE X (.Call (.Name "dict" p) [.Call (.Name "zip" p2) [e1, e2] [] pos2] [] pos) (tDZ X.K ta) := by
  refine ⟨fun pins s σ H Q I h => ?_⟩
  refine Call_ (ld_blt I hg hm PyProof.Rows.boot_dict (PyProof.Rows.callWith_type1 (args_cons ?_ na) na))
  refine Call_ (ld_blt I hgz hmz PyProof.Rows.boot_zip (PyProof.Rows.callWith_type1 (thn (ha.run pos2 pins s σ H _ I h) fun us s1 ⟨vs, H1, I1, r1, q1⟩ => ?_) hs hpl))
  obtain ⟨a, b, xs, ys, ks, rfl, hqx, hqy, hlen, hk, hnd, q⟩ := q1
  obtain ⟨u1, u2, rfl, ra, rb⟩ := vals2 r1
  cases ra
  cases rb
  obtain ⟨its, rv, pl, hz⟩ := I1.list hqx
  obtain ⟨its2, rv2, pt, _⟩ := I1.tuple hqy
  obtain ⟨ps, e1, e2, e3, e4, e5⟩ := entries_of hk rv rv2 hlen
  have hla : a < s1.heap.objs.size := pl.lt
  obtain ⟨ot, hot, _⟩ := id pt
  have hlb : b < s1.heap.objs.size := Heap.lt_size hot
  have il : s1.heap.IsList a its.toArray := pl.isList
  have it : s1.heap.IsTuple b its2.toArray := tup_is pt
  refine zip_begins2 (begins_list a its.toArray) (begins_tuple b its2.toArray) il it fun h' z1 z2 z3 z4 z5 hsz k => args_nil ?_
  have I2 : Inv X pins σ H1 { s1 with heap := h' } := I1.kept (t' := s1.toks) k
  have hh : X.A.handled = none := I1.ok.hd hc
  have hN1 : ∀ c ∈ [a], c < s1.heap.objs.size := fun c hc => by rw [List.mem_singleton.mp hc]; exact hla
  have hN2 : ∀ c ∈ [b], c < s1.heap.objs.size := fun c hc => by rw [List.mem_singleton.mp hc]; exact hlb
  have Z := zip_sep2 hN1 hN2
  have Pz := zip_arg (prog := X.prog) (w := X.w) hh Z (fun A hA => Draws.list hA s1.heap.objs.size a (Nat.ne_of_lt hla) its.toArray) (fun A hA => Draws.tuple hA (s1.heap.objs.size + 1) b (Nat.ne_of_lt (Nat.lt_succ_of_lt hlb)) its2.toArray)
  have li : h'.IsListIter s1.heap.objs.size a 0 := ⟨_, z4, rfl, rfl⟩
  have ti : h'.IsTupleIter (s1.heap.objs.size + 1) b 0 := ⟨_, z5, rfl, rfl⟩
  have il' := il.at fun o e => k _ o e
  have it' := it.at fun o e => k _ o e
  have hn : min its.toArray.size its2.toArray.size = its.length := by
    rw [List.size_toArray, List.size_toArray, e3, Nat.min_self]
  refine call_dict_pairsH (s := { s1 with heap := h' }) (knd := tupleKind (mixKind X.prog X.w)) (ps := ps) Pz hh (by show X.A.units + 1 + 1 < cLine; omega) ⟨z1, z2, ⟨_, _, z3⟩, ⟨li, il'⟩, ⟨ti, it'⟩, fun c hc => ?_⟩ ⟨by rw [hn]; exact e2, fun i key v hr => ?_⟩ (fun hx keep x hxm => ?_) (by rw [hn, ← rv.length]; exact hz) fun hx tk hd keep => ?_
  · simp only [List.cons_append, List.nil_append, List.mem_cons, List.not_mem_nil, or_false] at hc
    rcases hc with rfl | rfl | rfl | rfl
    · exact ⟨_, z4⟩
    · obtain ⟨o, ho, _⟩ := il'
      exact ⟨o, ho⟩
    · exact ⟨_, z5⟩
    · obtain ⟨o, ho, _⟩ := it'
      exact ⟨o, ho⟩
  · exact e4 i key v (by simpa using hr.1) (by simpa using hr.2)
  · obtain ⟨⟨o, it3, n, g1, g2⟩, g3⟩ := kt_keys I2.hok e5 x hxm
    have old : ∀ c, s1.heap.objs.size ≤ c → x.2.1 ≠ c := fun c hle e => g3 (by rw [e]; exact I1.hok.fresh hle)
    refine ⟨o, it3, n, keep _ _ (old _ (by show s1.heap.objs.size ≤ h'.objs.size; omega)) (fun hm => ?_) g1, g2⟩
    simp only [List.mem_cons, List.not_mem_nil, or_false] at hm
    rcases hm with e | e | e | e
    · exact old _ (by omega) e
    · exact old _ (by omega) e
    · exact old _ (Nat.le_refl _) e
    · exact old _ (by omega) e
  · have keep1 : ∀ c o, s1.heap.get? c = some o → hx.get? c = some o := fun c o e => by
      have hlt := Heap.lt_size e
      refine keep c o (fun hm => ?_) (k _ _ e)
      simp only [List.mem_cons, List.not_mem_nil, or_false] at hm
      rcases hm with q | q | q | q <;> (rw [q] at hlt; first | exact Nat.lt_irrefl _ (Nat.lt_of_le_of_lt (Nat.le_add_right _ _) hlt) | exact Nat.lt_irrefl _ hlt)
    have hle : s1.heap.objs.size ≤ h'.objs.size := by omega
    have hfree : H1 h'.objs.size = none := I1.hok.fresh hle
    rw [storedAll_new ps [] (by rw [List.nil_append, e1]; exact hnd), List.nil_append] at hd
    obtain ⟨o, es, ep, g1, g2, g3, g4, g5, g6⟩ := hd
    have hkt : KT (upd H1 h'.objs.size (.dT (ks.zip ys))) (ks.zip ys) ps := by
      refine paired_imp (fun p q hpq => ⟨hpq.1, ?_, hpq.2.2⟩) e5
      rw [upd_ne (fun z => by rw [z, hfree] at hpq; cases hpq.2.1)]
      exact hpq.2.1
    have hzl : (ks.zip ys).length ≤ sizeLine := by
      have h2 := paired_len e5
      rw [h2, e2, ← rv.length]
      exact hz
    refine ⟨.ref h'.objs.size, upd H1 h'.objs.size (.dT (ks.zip ys)), I1.laid (t' := tk) keep1 hle (show ObjOk X.prog X.w _ _ _ (.dT (ks.zip ys)) from ⟨hzl, beq_eq_false_iff_ne.mpr (Nat.ne_of_gt I2.big), ps, hkt, o, es, ep, g1, g2, g3, g4, g6⟩), rfl, q _ hfree⟩
section
variable {X : Cx} {e1 e2 : Expr} {st : Sta} {ow ow1 : List OB} {p p2 pos pos2 : Pos} {dd : D} {ds : List D}
abbrev tupI (ns : List Int) : D := .tup (ns.map D.int)
abbrev keyI (ns : List Int) : List Key := ns.map Sum.inl
theorem dens_keys {K : PySem.W.Frag} {S : List Addr} {H : Hp} : ∀ {nss : List (List Int)} {xs : List V}, Dens K S H xs (nss.map tupI) → Paired (IsKT H) xs (nss.map keyI)
  | [], [], _ => .nil
  | [], _ :: _, h => nomatch h
  | _ :: _, [], h => nomatch h
  | ns :: nss, x :: xs, h => by
    obtain ⟨h1, h2⟩ := Dens.uncons h
    cases h1 with
    | tup q r =>
      have e := Dens.ints r
      subst e
      refine .cons ⟨_, rfl, ?_⟩ (dens_keys h2)
      rw [q.2, List.map_map] <;> rfl
theorem kds_zip {K : PySem.W.Frag} {S : List Addr} {H : Hp} : ∀ {ks : List (List Key)} {ys : List V} {ds : List D}, Dens K S H ys ds → KDs K S H (ks.zip ys) (ks.zip ds)
  | [], _, _, _ => by rw [List.zip_nil_left, List.zip_nil_left]; exact .knil
  | _ :: _, [], [], _ => .knil
  | _ :: _, [], _ :: _, h => nomatch h
  | _ :: _, _ :: _, [], h => nomatch h
  | k :: ks, y :: ys, d :: ds, h => by
    obtain ⟨h1, h2⟩ := Dens.uncons h
    exact .kcons h1 (kds_zip h2)
theorem keyI_inj {a b : List Int} (h : keyI a = keyI b) : a = b := by
  induction a generalizing b with
  | nil => cases b with
    | nil => rfl
    | cons _ _ => cases h
  | cons x a ih => cases b with
    | nil => cases h
    | cons y b =>
      injection h with h1 h2
      injection h1 with h1
      rw [h1, ih h2]
theorem nodup_keys {nss : List (List Int)} (h : nss.Nodup) : (nss.map keyI).Nodup := by
  unfold List.Nodup at *
  rw [List.pairwise_map]
  exact h.imp fun hab e => hab (keyI_inj e)
/-- dict(zip(keys, t)) -/
theorem pd_dictZip (nss : List (List Int)) (hc : X.calm = true) (hu : X.A.units + 64 < cLine) (hm : X.mg "dict" = none) (hmz : X.mg "zip" = none) (ha : PADd X st ow [e1, e2] [.lst (nss.map tupI), dd] ow1) (ht : tupL dd = some ds) (hl : nss.length = ds.length) (hn : nss.Nodup) (hg : Gl X "dict" := by rfl) (hgz : Gl X "zip" := by rfl)
    (hs : starEach [e1, e2] X.env = (false, eval e1 X.env) :: starEach [e2] X.env := by rfl) (hpl : (backTo pos2 (starEach [e2] X.env)).any (·.1) = false := by rfl)
    (na : starEach [.Call (.Name "zip" p2) [e1, e2] [] pos2] X.env = (false, eval (.Call (.Name "zip" p2) [e1, e2] [] pos2) X.env) :: starEach [] X.env := by rfl) :
    PD X st ow (.Call (.Name "dict" p) [.Call (.Name "zip" p2) [e1, e2] [] pos2] [] pos) (.d (.dT ((nss.map keyI).zip ds))) ow1 :=
  (pe_dictZip hc hu hm hmz ha hg hgz hs hpl na).imp fun σ H Q ⟨S, sl, o, k⟩ => ⟨S, sl, o, fun S1 vs H1 f1 o1 d1 => by
    obtain ⟨v, w, rfl, g1, g2⟩ := dens2 (densOf d1)
    obtain ⟨a, xs, rfl, h1, h2⟩ := g1.of_lst
    obtain ⟨b, ys, rfl, h3, h4⟩ := Den.of_tup g2 ht
    refine ⟨a, b, xs, ys, nss.map keyI, rfl, h1.sq, h3, ?_, dens_keys h2, nodup_keys hn, fun q hq => ?_⟩
    · have e5 := Dens.length h2
      have e6 := Dens.length h4
      rw [List.length_map] at e5
      omega
    · have ex : Evl.Ex H1 (upd H1 q (.dT ((nss.map keyI).zip ys))) := Evl.Ex.new hq
      refine k S1 _ _ (f1.trans o1 (.of ex)) (o1.ex ex) (.d (.dT (o1.nin hq) upd_same ?_))
      exact DenG.mono (ExS.of ex) (kds_zip h4)⟩
end
end Bl
set_option Elab.async false
set_option linter.all false
set_option maxRecDepth 100000
set_option maxHeartbeats 4000000
namespace Bl
open PySem PySem.Spec PyProof.Rows L2
/-! ### an object while its __init__ runs -/
/-- data with no object in it -/
inductive NoI : D → Prop where
  | non : NoI .non
  | bl (b : Bool) : NoI (.bl b)
  | int (i : Int) : NoI (.int i)
  | str (x : Str) : NoI (.str x)
  | ty (n : String) : NoI (.ty n)
  | tup {l : List D} (h : ∀ d ∈ l, NoI d) : NoI (.tup l)
  | tupN {l : List D} (h : ∀ d ∈ l, NoI d) : NoI (.tupN l)
  | par {l : List D} (h : ∀ d ∈ l, NoI d) : NoI (.par l)
  | lst {l : List D} (h : ∀ d ∈ l, NoI d) : NoI (.lst l)
  | lstV {l : List D} (h : ∀ d ∈ l, NoI d) : NoI (.lstV l)
  | dT {l : List (List Key × D)} (h : ∀ p ∈ l, NoI p.2) : NoI (.dT l)
def NoIs (ds : List D) : Prop := ∀ d ∈ ds, NoI d
theorem noIs_ints (ns : List Int) : NoIs (ns.map D.int) := fun d h => by
  obtain ⟨n, _, rfl⟩ := List.mem_map.mp h
  exact .int n
def NoIob : OB → Prop
  | .l ds => NoIs ds
  | .t gs => ∀ p ∈ gs, NoI p.2
  | .g _ => True
  | .r _ => True
def NoIow (ow : List OB) : Prop := ∀ l ∈ ow, NoIob l
def NoIG : G → Prop
  | .v _ d => NoI d
  | .vs _ ds => ∀ d ∈ ds, NoI d
  | .fl _ gs => ∀ p ∈ gs, NoI p.2
  | .kd _ gs => ∀ p ∈ gs, NoI p.2
def erase (x : Addr) (H : Hp) : Hp := fun a => if a = x then none else H a
theorem erase_ne {x a : Addr} {H : Hp} (h : a ≠ x) : erase x H a = H a := if_neg h
theorem erase_self {x : Addr} {H : Hp} : erase x H x = none := if_pos rfl
theorem erase_sub {x a : Addr} {H : Hp} {o : HO} (h : erase x H a = some o) : H a = some o ∧ a ≠ x := by
  by_cases e : a = x
  · rw [e, erase_self] at h; cases h
  · rw [erase_ne e] at h; exact ⟨h, e⟩
theorem erase_exS {x : Addr} {S : List Addr} {H : Hp} : ExS S (erase x H) H := fun a o _ h => (erase_sub h).1
section
variable {K : PySem.W.Frag} {S S' : List Addr} {H H' : Hp} {x C dx : Addr} {fs : List (Str × V)}
theorem ne_ins {a : Addr} {o : HO} (hx : H x = some (.ins C dx fs)) (h : H a = some o) (no : ∀ C dx fs, o ≠ .ins C dx fs) : erase x H a = some o := by
  rw [erase_ne (fun e => by rw [e, hx] at h; exact no _ _ _ (Option.some.inj h).symm)]
  exact h
theorem rd_erase {a : Addr} {u : HO} (hx : H x = some (.ins C dx fs)) (h : Rd H a u) (no : ∀ C dx fs, u ≠ .ins C dx fs) : Rd (erase x H) a u := by
  rcases h with h | ⟨o, h⟩
  · exact .inl (ne_ins hx h no)
  · exact .inr ⟨o, ne_ins hx h fun _ _ _ z => nomatch z⟩
theorem DenG.erased (hx : H x = some (.ins C dx fs)) {g : G} (h : DenG K S H g) : NoIG g → DenG K S (erase x H) g := by
  induction h with
  | non => exact fun _ => .non
  | bl b => exact fun _ => .bl b
  | int i => exact fun _ => .int i
  | str y => exact fun _ => .str y
  | ty n => exact fun _ => .ty n
  | tup q _ ih => exact fun n => by cases n with | tup n => exact .tup ⟨q.1, ne_ins hx q.2 fun _ _ _ z => nomatch z⟩ (ih n)
  | tupN q _ ih =>
    intro n
    cases n with
    | tupN n =>
      refine .tupN ?_ (ih n)
      rcases q with ⟨n1, o, d, q⟩ | q
      · exact .inl ⟨n1, o, d, ne_ins hx q fun _ _ _ z => nomatch z⟩
      · exact .inr q
  | par n1 q _ ih => exact fun n => by cases n with | par n => exact .par n1 (rd_erase hx q fun _ _ _ z => nomatch z) (ih n)
  | lst q _ ih =>
    intro n
    cases n with
    | lst n =>
      refine .lst ?_ (ih n)
      rcases q with ⟨n1, q⟩ | q
      · exact .inl ⟨n1, rd_erase hx q fun _ _ _ z => nomatch z⟩
      · exact .inr q
  | ins _ _ _ _ => exact fun n => by cases n
  | lstV n1 q _ ih => exact fun n => by cases n with | lstV n => exact .lstV n1 (ne_ins hx q fun _ _ _ z => nomatch z) (ih n)
  | dT n1 q _ ih => exact fun n => by cases n with | dT n => exact .dT n1 (ne_ins hx q fun _ _ _ z => nomatch z) (ih n)
  | nil => exact fun _ => .nil
  | cons _ _ ih1 ih2 => exact fun n => .cons (ih1 (n _ List.mem_cons_self)) (ih2 fun d hd => n d (List.mem_cons_of_mem _ hd))
  | fnil => exact fun _ => .fnil
  | fcons _ _ ih1 ih2 => exact fun n => .fcons (ih1 (n _ List.mem_cons_self)) (ih2 fun d hd => n d (List.mem_cons_of_mem _ hd))
  | knil => exact fun _ => .knil
  | kcons _ _ ih1 ih2 => exact fun n => .kcons (ih1 (n _ List.mem_cons_self)) (ih2 fun d hd => n d (List.mem_cons_of_mem _ hd))
theorem Owns.erased {ow : List OB} (hx : H x = some (.ins C dx fs)) (o : Owns K S H ow) (n : NoIow ow) : Owns K S (erase x H) ow :=
  ⟨o.len, o.nd, fun k l e => by
    obtain ⟨a, z, y⟩ := o.ob k l e
    have hn := n l (List.mem_of_getElem? e)
    refine ⟨a, z, ?_⟩
    cases y with
    | l y w => exact .l (ne_ins hx y (fun _ _ _ z => nomatch z)) (DenG.erased hx w hn)
    | t y w => exact .t (ne_ins hx y (fun _ _ _ z => nomatch z)) (DenG.erased hx w hn)
    | g y w => exact .g (ne_ins hx y (fun _ _ _ z => nomatch z)) w
    | r y w => exact .r (ne_ins hx y (fun _ _ _ z => nomatch z)) w⟩
theorem Owns.exS {ow : List OB} (o : Owns K S H ow) (e : ∀ a u, H a = some u → H' a = some u) : Owns K S H' ow := o.ex e
theorem Fwd.erased (hn : x ∉ S) (hx : H x = some (.ins C dx fs)) (f : Fwd S H S' H') : Fwd S (erase x H) S' (erase x H') ∧ x ∉ S' := by
  refine ⟨⟨?_, fun a o n h => ?_⟩, fun z => ?_⟩
  · obtain ⟨ps, e, q⟩ := f.gr
    refine ⟨ps, e, fun p hp => ?_⟩
    unfold erase
    split
    · rfl
    · exact q p hp
  · obtain ⟨h1, h2⟩ := erase_sub h
    rw [erase_ne h2]
    exact f.ex a o n h1
  · rcases f.mem z with y | y
    · exact hn y
    · rw [hx] at y; cases y
end
def putD (f : Str) (v : D) : List (Str × D) → List (Str × D)
  | [] => [(f, v)]
  | (g, x) :: r => if g = f then (g, v) :: r else (g, x) :: putD f v r
theorem flds_put {K : PySem.W.Frag} {S : List Addr} {H : Hp} {f : Str} {v : V} {d : D} (hd : Den K S H v d) : ∀ {fs : List (Str × V)} {gs : List (Str × D)}, Flds K S H fs gs → Flds K S H (putF f v fs) (putD f d gs)
  | [], [], _ => .fcons hd .fnil
  | [], _ :: _, h => nomatch h
  | _ :: _, [], h => nomatch h
  | (g, w) :: fs, (g2, d2) :: gs, h => by
    cases h with
    | fcons h1 r =>
      unfold putF putD
      by_cases e : g = f
      · rw [if_pos e, if_pos e]
        exact .fcons hd r
      · rw [if_neg e, if_neg e]
        exact .fcons h1 (flds_put hd r)
theorem flds_len {K : PySem.W.Frag} {S : List Addr} {H : Hp} : ∀ {fs : List (Str × V)} {gs : List (Str × D)}, Flds K S H fs gs → fs.length = gs.length
  | [], [], _ => rfl
  | [], _ :: _, h => nomatch h
  | _ :: _, [], h => nomatch h
  | _ :: fs, _ :: gs, h => by
    cases h with
    | fcons _ r => exact congrArg (· + 1) (flds_len r)
/-- the state of an __init__: the object at x has the fields gs so far, nothing else leans on x -/
structure InI (K : PySem.W.Frag) (C x : Addr) (S : List Addr) (H : Hp) (σ : L2.St) (st : Sta) (ow : List OB) (gs : List (Str × D)) : Prop where
  nin : x ∉ S
  at_ : ∃ dx fs, H x = some (.ins C dx fs) ∧ Flds K S (erase x H) fs gs
  me : σ[0]? = some (some (.ref x))
  sl : Slots K S (erase x H) σ st
  ow : Owns K S (erase x H) ow
def tIS (K : PySem.W.Frag) (C : Addr) (st : Sta) (ow : List OB) (gs : List (Str × D)) (st' : Sta) (ow' : List OB) (gs' : List (Str × D)) : TS := fun E σ H => ∃ S x, InI K C x S H σ st ow gs ∧ ∀ S' σ' H', Fwd S (erase x H) S' (erase x H') → InI K C x S' H' σ' st' ow' gs' → E.nx σ' H'
/-- the slots, self's object read as data -/
def selfS (C : Addr) (st : Sta) (gs : List (Str × D)) : Sta := st.set 0 (some (.d (.ins C gs)))
section
variable {K : PySem.W.Frag} {S S' : List Addr} {H H' : Hp} {x C : Addr} {σ : L2.St} {st : Sta} {ow ow' : List OB} {gs : List (Str × D)}
theorem InI.slots (I : InI K C x S H σ st ow gs) : Slots K S H σ (selfS C st gs) := by
  obtain ⟨dx, fs, h1, h2⟩ := I.at_
  refine ⟨by rw [I.sl.len]; unfold selfS; rw [List.length_set], fun i r e => ?_⟩
  unfold selfS at e
  rw [List.getElem?_set] at e
  split at e
  · rename_i h0
    subst h0
    split at e
    · cases e
      exact ⟨_, I.me, .d (.ins I.nin h1 (DenG.mono erase_exS h2))⟩
    · cases e
  · obtain ⟨v, e1, e2⟩ := I.sl.sl i r e
    exact ⟨v, e1, e2.mono erase_exS⟩
theorem InI.owns (I : InI K C x S H σ st ow gs) : Owns K S H ow := I.ow.exS fun _ _ h => (erase_sub h).1
/-- behind an expression -/
theorem InI.behind (I : InI K C x S H σ st ow gs) (f : Fwd S H S' H') (o : Owns K S' H' ow') (n : NoIow ow') : Fwd S (erase x H) S' (erase x H') ∧ InI K C x S' H' σ st ow' gs := by
  obtain ⟨dx, fs, h1, h2⟩ := I.at_
  obtain ⟨f1, n1⟩ := Fwd.erased I.nin h1 f
  have h3 := f.ex x _ I.nin h1
  exact ⟨f1, n1, ⟨dx, fs, h3, f1.den h2⟩, I.me, f1.slots I.sl, o.erased h3 n⟩
end
section
variable {X : Cx} {C : Addr} {st st1 st' : Sta} {ow ow1 ow' : List OB} {gs gs1 gs' : List (Str × D)} {e o : Expr} {s : Stmt} {ss : List Stmt} {r : R} {d : D} {f : Str} {pos pos' p1 : Pos} {sn : Str}
abbrev PSI (X : Cx) (C : Addr) (st : Sta) (ow : List OB) (gs : List (Str × D)) (s : Stmt) (st' : Sta) (ow' : List OB) (gs' : List (Str × D)) : Prop := PS X s (tIS X.K C st ow gs st' ow' gs')
abbrev PBI (X : Cx) (C : Addr) (st : Sta) (ow : List OB) (gs : List (Str × D)) (s : List Stmt) (st' : Sta) (ow' : List OB) (gs' : List (Str × D)) : Prop := PSs X s (tIS X.K C st ow gs st' ow' gs')
theorem pbi_nil : PBI X C st ow gs [] st ow gs := (pss_nil).imp fun E σ H ⟨S, x, I, k⟩ => k S σ H (.refl S _) I
theorem pbi_cons (h1 : PSI X C st ow gs s st1 ow1 gs1) (h2 : PBI X C st1 ow1 gs1 ss st' ow' gs') : PBI X C st ow gs (s :: ss) st' ow' gs' :=
  (pss_cons h1 h2).imp fun E σ H ⟨S, x, I, k⟩ => ⟨S, x, I, fun S1 σ1 H1 f1 I1 => ⟨S1, x, I1, fun S2 σ2 H2 f2 I2 => k S2 σ2 H2 (f1.trans I1.ow f2) I2⟩⟩
theorem psi_expr (he : PD X (selfS C st gs) ow e r ow') (n : NoIow ow') (hs : swapsWith e none pos.line X.env = pure false := by rfl) : PSI X C st ow gs (.Expr e pos) st ow' gs :=
  (ps_expr he hs).imp fun E σ H ⟨S, x, I, k⟩ => ⟨S, I.slots, I.owns, fun S1 v H1 f1 o1 d1 => by
    obtain ⟨g1, g2⟩ := I.behind f1 o1 n
    exact k S1 σ H1 g1 g2⟩
/-- self.f = e, e's value with no object in it -/
theorem psi_fld (he : PD X (selfS C st gs) ow e (.d d) ow') (n : NoIow ow') (nd : NoI d) (c : Cls X.K C) (na : NoAttr X.K C f) (hl : gs.length < 1000) (hN : X.N[0]? = some sn := by rfl) (hv : Vis X.env.scope sn := by first | exact Or.inl rfl | exact Or.inr (Or.inl rfl) | exact Or.inr (Or.inr rfl)) (hd : (sn == ("__debug__" : Str)) = false := by decide)
    (hcd : (sn == ("__classdict__" : Str)) = false := by decide) (hs : swapsWith e (some (.Attribute (.Name sn p1) f pos')) pos.line X.env = pure false := by rfl) : PSI X C st ow gs (.Assign [.Attribute (.Name sn p1) f pos'] e pos) st ow' (putD f d gs) :=
  (ps_fld (pv 0 hN hv hd hcd) he hs).imp fun E σ H ⟨S, x, I, k⟩ => ⟨S, I.slots, I.owns, fun S1 v H1 f1 o1 d1 => by
    obtain ⟨g1, g2⟩ := I.behind f1 o1 n
    obtain ⟨dx, fs, h1, h2⟩ := g2.at_
    refine ⟨.ref x, g2.me, x, C, dx, fs, rfl, h1, c, na, by rw [flds_len h2]; exact hl, ?_⟩
    have ee : erase x (upd H1 x (.ins C dx (putF f v fs))) = erase x H1 := by
      funext a
      unfold erase
      split
      · rfl
      · rename_i q; exact upd_ne q
    cases d1 with
    | d d1 =>
      have d2 : Den X.K S1 (erase x H1) v d := DenG.erased h1 d1 nd
      refine k S1 σ _ (by rw [ee]; exact g1) ⟨g2.nin, ⟨dx, _, upd_same, by rw [ee]; exact flds_put d2 h2⟩, g2.me, by rw [ee]; exact g2.sl, by rw [ee]; exact g2.ow⟩⟩
end
/-! ### the contract of an __init__, and C(..) -/
abbrev GI := List R → List OB → List (Str × D) → List OB → Prop
def spI (K : PySem.W.Frag) (C : Addr) (g : GI) : Sp := fun vs H Q _ => ∃ S x dx us rs ow gs ow', vs = .ref x :: us ∧ x ∉ S ∧ H x = some (.ins C dx []) ∧ DenRs K S (erase x H) us rs ∧ Owns K S (erase x H) ow ∧ g rs ow gs ow' ∧
  ∀ S' H' dx' fs', Fwd S (erase x H) S' (erase x H') → Owns K S' (erase x H') ow' → x ∉ S' → H' x = some (.ins C dx' fs') → Flds K S' (erase x H') fs' gs → Q .non H'
theorem okI {P : Program} {w : World} {K : PySem.W.Frag} {mg : Str → Option Value} {base : Heap} {xn qual : Str} {sst : Stmt} {f C : Addr} {fd : FuncData} {N ps : List Str} {k : Nat} {g : GI} (F : Fun K xn qual sst f fd) (SC : FnScope N ps (defScope sst)) (len : ∀ rs ow gs ow', g rs ow gs ow' → rs.length + 1 = ps.length)
    (hbody : ∀ (cdv : Value) (A : Around) (outer : List Env) (s : Shared) (H : Hp) (E : XK), Room k (A.deeper (envOfC qual (defScope sst) s.heap.objs.size f cdv)) → ∀ rs ow gs ow', g rs ow gs ow' →
      ∃ st', PBI (cxOf CX0 P w K mg base N qual (defScope sst) f cdv A outer s H E).nox C (none :: (startD N rs).dropLast) ow [] (defBody sst) st' ow' gs) (hN : ∀ rs ow gs ow', g rs ow gs ow' → rs.length < N.length) : FnOk P w K mg base CX0 (k + 1) f fd ps (spI K C g) := by
  refine F.ok SC (fun vs H Q E h => ?_) (fun cdv A outer s H vs Q E hr h => ?_)
  · obtain ⟨S, x, dx, us, rs, ow, gs, ow', rfl, _, _, h1, _, h3, _⟩ := h
    rw [List.length_cons, h1.length, len _ _ _ _ h3]
  · obtain ⟨S, x, dx, us, rs, ow, gs, ow', rfl, n, hx, h1, h2, h3, q⟩ := h
    obtain ⟨st', hb⟩ := hbody cdv A outer s H E hr rs ow gs ow' h3
    have hlt := hN _ _ _ _ h3
    have hul := h1.length
    refine ⟨_, hb, S, x, ⟨n, ⟨dx, [], hx, .fnil⟩, rfl, ?_, h2⟩, fun S' σ' H' f' I' => ?_⟩
    · have sl := start_slots (N := N) h1
      refine ⟨?_, fun i r e => ?_⟩
      · unfold L2.start startD
        simp only [List.length_append, List.length_map, List.length_replicate, List.length_cons, List.length_dropLast]
        omega
      · cases i with
        | zero => cases e
        | succ i =>
          have e1 : (startD N rs).dropLast[i]? = some (some r) := e
          have e2 : (startD N rs)[i]? = some (some r) := by
            rw [List.getElem?_dropLast] at e1
            split at e1
            · exact e1
            · cases e1
          obtain ⟨v, g1, g2⟩ := sl.sl i r e2
          refine ⟨v, ?_, g2⟩
          have hi : i < us.length := by
            by_cases hi : i < us.length
            · exact hi
            · exfalso
              unfold startD at e2
              rw [List.getElem?_append_right (by rw [List.length_map]; omega), List.getElem?_replicate] at e2
              split at e2 <;> cases e2
          unfold L2.start at g1 ⊢
          rw [List.getElem?_append_left (by rw [List.length_map]; exact hi)] at g1
          rw [List.getElem?_append_left (by rw [List.length_map, List.length_cons]; omega)]
          exact g1
    · obtain ⟨dx', fs', g1, g2⟩ := I'.at_
      exact q S' H' dx' fs' f' I'.ow I'.nin g1 g2
theorem pd_make {X : Cx} {C f : Addr} {fd : FuncData} {ps : List Str} {k : Nat} {g : GI} {xn : Str} {p pos : Pos} {e : Expr} {es : List Expr} {st : Sta} {ow ow1 ow2 : List OB} {rs : List R} {gs : List (Str × D)} (M : Mk X.K C f) (F : FnOk X.prog X.w X.K X.mg X.base CX0 k f fd ps (spI X.K C g)) (hr : Room (k + 1) X.A) (hm : X.mg xn = some (.ref C)) (hb : Binds X.K fd ps [])
    (ha : PAD X st ow (e :: es) rs ow1) (hgg : g rs ow1 gs ow2) (hg : Gl X xn := by rfl) (hdb : (xn == ("__debug__" : Str)) = false := by decide) (he : starEach (e :: es) X.env = (false, eval e X.env) :: starEach es X.env := by rfl) (hpl : (backTo pos (starEach es X.env)).any (·.1) = false := by rfl) :
    PD X st ow (.Call (.Name xn p) (e :: es) [] pos) (.d (.ins C gs)) ow2 :=
  (pe_make M F hr hg hm hb .nil pass0 ha hdb he hpl).imp fun σ H Q ⟨S, sl, o, q⟩ => ⟨S, sl, o, fun S1 vs H1 f1 o1 d1 x dx hx hdx hne => by
    have hb0 : ∀ a u, H1 a = some u → erase x (upd (upd H1 dx (.own x)) x (.ins C dx [])) a = some u := fun a u h => by
      have n1 : a ≠ x := fun z => by rw [z, hx] at h; cases h
      have n2 : a ≠ dx := fun z => by rw [z, hdx] at h; cases h
      rw [erase_ne n1, upd_ne n1, upd_ne n2]
      exact h
    have fb : Fwd S1 H1 S1 (erase x (upd (upd H1 dx (.own x)) x (.ins C dx []))) := ⟨⟨[], (List.append_nil S1).symm, fun _ z => nomatch z⟩, fun a u _ h => hb0 a u h⟩
    rw [appnil]
    refine ⟨S1, x, dx, vs, rs, ow1, gs, ow2, rfl, o1.nin hx, upd_same, fb.denRs d1, o1.exS hb0, hgg, fun S2 H2 dx' fs' f2 o2 n2 h2 h3 => ⟨rfl, ?_⟩⟩
    have f3 : Fwd S1 H1 S2 (erase x H2) := fb.trans (o1.exS hb0) f2
    have f4 : Fwd S1 H1 S2 H2 := ⟨f3.gr, fun a u n h => (erase_sub (f3.ex a u n h)).1⟩
    exact q S2 _ H2 (f1.trans o1 f4) (o2.exS fun _ _ h => (erase_sub h).1) (.d (.ins n2 h2 (DenG.mono erase_exS h3)))⟩
end Bl
set_option Elab.async false
set_option linter.all false
set_option maxRecDepth 100000
set_option maxHeartbeats 4000000
namespace Bl
open PySem PySem.Spec PyProof.Rows L2
/-! ### the pairs, threes, fours of a list -/
def combo {α : Type} (bs : List α → List (List α)) (as : List α) : List (List α) := as.zipIdx.flatMap fun p => (bs (as.drop (p.2 + 1))).map (p.1 :: ·)
def sub1 {α : Type} (as : List α) : List (List α) := as.map fun d => [d]
def sub2 {α : Type} (as : List α) : List (List α) := combo sub1 as
def sub3 {α : Type} (as : List α) : List (List α) := combo sub2 as
def sub4 {α : Type} (as : List α) : List (List α) := combo sub3 as
section
variable {α β : Type} (f : α → β)
theorem combo_map {bs : List α → List (List α)} {bt : List β → List (List β)} (h : ∀ l, bt (l.map f) = (bs l).map (List.map f)) (as : List α) : combo bt (as.map f) = (combo bs as).map (List.map f) := by
  unfold combo
  rw [List.zipIdx_map, List.map_flatMap, List.flatMap_map]
  congr 1
  funext p
  show List.map (f p.1 :: ·) (bt (List.drop (p.2 + 1) (as.map f))) = _
  rw [← List.map_drop, h, List.map_map, List.map_map]
  rfl
theorem sub1_map (as : List α) : sub1 (as.map f) = (sub1 as).map (List.map f) := by
  unfold sub1
  rw [List.map_map, List.map_map]
  rfl
theorem sub2_map (as : List α) : sub2 (as.map f) = (sub2 as).map (List.map f) := combo_map f (sub1_map f) as
theorem sub3_map (as : List α) : sub3 (as.map f) = (sub3 as).map (List.map f) := combo_map f (sub2_map f) as
theorem sub4_map (as : List α) : sub4 (as.map f) = (sub4 as).map (List.map f) := combo_map f (sub3_map f) as
end
theorem cut_drop (as : List D) (i : Nat) : cutD as (some ((i : Int) + 1)) none = as.drop (i + 1) := by
  unfold cutD
  rw [show ((i : Int) + 1) = ((i + 1 : Nat) : Int) by omega, HT.sIx_nat, HT.sIx_none, List.take_of_length_le (by rw [List.length_drop]; exact Nat.le_refl _)]
  by_cases h : i + 1 ≤ as.length
  · rw [Nat.min_eq_left h]
  · rw [Nat.min_eq_right (by omega), List.drop_of_length_le (Nat.le_refl _), List.drop_of_length_le (by omega)]
theorem flatMap_len {α β : Type} (f : α → List β) (M : Nat) : ∀ l : List α, (∀ x ∈ l, (f x).length ≤ M) → (l.flatMap f).length ≤ l.length * M
  | [], _ => by simp
  | x :: l, h => by
    have h1 := flatMap_len f M l fun y hy => h y (List.mem_cons_of_mem x hy)
    have h2 := h x List.mem_cons_self
    rw [List.flatMap_cons, List.length_append, List.length_cons, Nat.succ_mul]
    omega
theorem all2_len {α β : Type} (bs : α → List β) (qq : α → β → Bool) (ff : α → β → D) (M : Nat) (l : List α) (h : ∀ x ∈ l, (bs x).length ≤ M) : (all2 bs qq ff l).length ≤ l.length * M :=
  flatMap_len _ M l fun x hx => by
    rw [List.length_map]
    exact Nat.le_trans (List.length_filter_le _ _) (h x hx)
theorem combo_len (bs : List D → List (List D)) (M : Nat) (as : List D) (h : ∀ n, (bs (as.drop n)).length ≤ M) : (combo bs as).length ≤ as.length * M := by
  have := flatMap_len (fun p : D × Nat => (bs (as.drop (p.2 + 1))).map (p.1 :: ·)) M as.zipIdx fun x _ => by rw [List.length_map]; exact h _
  rwa [List.length_zipIdx] at this
theorem sub1_len (as : List D) (n : Nat) (h : as.length ≤ n) : (sub1 as).length ≤ n := by unfold sub1; rw [List.length_map]; exact h
theorem sub2_len (as : List D) (n : Nat) (h : as.length ≤ n) : (sub2 as).length ≤ n * n :=
  Nat.le_trans (combo_len sub1 n as fun m => sub1_len _ n (Nat.le_trans (by rw [List.length_drop]; omega) h)) (Nat.mul_le_mul_right n h)
theorem sub3_len (as : List D) (n : Nat) (h : as.length ≤ n) : (sub3 as).length ≤ n * (n * n) :=
  Nat.le_trans (combo_len sub2 (n * n) as fun m => sub2_len _ n (Nat.le_trans (by rw [List.length_drop]; omega) h)) (Nat.mul_le_mul_right _ h)
theorem all2_combo (bs : List D → List (List D)) (as : List D) : all2 (fun p : D × Nat => bs (as.drop (p.2 + 1))) (fun _ _ => true) (fun p l => D.tup (p.1 :: l)) as.zipIdx = (combo bs as).map D.tup := by
  unfold all2 combo
  rw [List.map_flatMap]
  congr 1
  funext p
  rw [List.map_map]
  simp [List.filter_eq_self.mpr, Function.comp_def]
section
variable {P : Program} {w : World} {K : PySem.W.Frag} {mg : Str → Option Value} {base : Heap} {f : Addr} {fd : FuncData} {k : Nat}
abbrev sPairs : Stmt := topS 17
abbrev sThrees : Stmt := topS 18
abbrev sFours : Stmt := topS 19
theorem scPairs : FnScope ["names", "at", "first", "second"] ["names"] (defScope sPairs) := ⟨rfl, rfl, rfl, by decide +kernel, rfl, by decide +kernel, by decide +kernel⟩
theorem scThrees : FnScope ["names", "at", "first", "pair"] ["names"] (defScope sThrees) := ⟨rfl, rfl, rfl, by decide +kernel, rfl, by decide +kernel, by decide +kernel⟩
theorem scFours : FnScope ["names", "at", "first", "three"] ["names"] (defScope sFours) := ⟨rfl, rfl, rfl, by decide +kernel, rfl, by decide +kernel, by decide +kernel⟩
def gSub (sb : List D → List (List D)) : GG := fun rs ow r ow' => ∃ (t : Bool) (as : List D), rs = [.d (sqD t as)] ∧ as.length ≤ 13 ∧ r = .d (.lst ((sb as).map D.tup)) ∧ ow' = ow
abbrev cSt (t : Bool) (as : List D) (p : D × Nat) (y : Option R) : Sta := [some (.d (sqD t as)), some (.d (.int (p.2 : Nat))), some (.d p.1), y]
theorem sub_bound (sb : List D → List (List D)) (M : Nat) (hM : 13 * M ≤ 40000) (hs : ∀ as : List D, as.length ≤ 13 → (sb as).length ≤ M) (as : List D) (ha : as.length ≤ 13) (ff : D × Nat → List D → D) :
    (∀ l : List (D × Nat), l <+: as.zipIdx → (all2 (fun p : D × Nat => sb (as.drop (p.2 + 1))) (fun _ _ => true) ff l).length + 40000 ≤ 80000) ∧ ∀ x, x ∈ as.zipIdx → (sb (as.drop (x.2 + 1))).length ≤ 40000 := by
  have hd : ∀ n, (sb (as.drop n)).length ≤ M := fun n => hs _ (by rw [List.length_drop]; omega)
  refine ⟨fun l hl => ?_, fun x _ => Nat.le_trans (hd _) (by omega)⟩
  have h1 := all2_len (fun p : D × Nat => sb (as.drop (p.2 + 1))) (fun _ _ => true) ff M l fun x _ => hd _
  have h2 : l.length ≤ 13 := Nat.le_trans hl.length_le (by rw [List.length_zipIdx]; exact ha)
  have h3 : l.length * M ≤ 13 * M := Nat.mul_le_mul_right M h2
  omega
theorem ok_pairs (F : Fun K "pairs_in" "pairs_in" sPairs f fd) (mE : mg "enumerate" = none) : FnOk P w K mg base CX0 (k + 1) f fd ["names"] (spF K (gSub sub2)) := by
  refine okF F scPairs (fun rs ow r ow' h => ?_) (fun cdv A outer s H E hr rs ow r ow' h => ?_)
  · obtain ⟨t, as, rfl, _⟩ := h
    rfl
  · obtain ⟨t, as, rfl, hl, rfl, rfl⟩ := h
    obtain ⟨b1, b2⟩ := sub_bound sub1 13 (by decide) (fun as h => sub1_len as 13 h) as hl (fun p l => D.tup (p.1 :: l))
    have e := all2_combo sub1 as
    refine pbd_last (psd_ret (pd_eqD (pd_lc2 (own := [("at", 1), ("first", 2), ("second", 3)]) [3] as.zipIdx (fun p => D.par [.int (p.2 : Nat), p.1]) (fun p => cSt t as p none)
      (fun p : D × Nat => sub1 (as.drop (p.2 + 1))) (fun _ y => y.headD .non) (fun p y => cSt t as p (some (.d (y.headD .non)))) (fun _ _ => true) (fun p y => D.tup (p.1 :: y))
      rfl scPairs.nd (pid_enumS mE (padd_cons (pd_var 0) padd_nil)) (blkOk_by (N := ["names", "at", "first", "second"]) (sc := defScope sPairs) (by decide +kernel)) (by decide) b1 b2
      (fun p hp s H C cl fp => pgd_tup rfl (pgsd_cons (pgd_name 1 scPairs.nd) (pgsd_cons (pgd_name 2 scPairs.nd) pgsd_nil)))
      (fun p hp l s H C cl fp => pid_eq (pid_sq (pd_slS (pd_var 0) (pod_some (pd_add (pd_var 1) pd_int)) pod_none)) (by rw [cut_drop]; simp [sub1, Function.comp_def]))
      (fun p y hp hy s H C cl fp => pgd_name 3 scPairs.nd)
      (fun p y hp hy l s H C cl fp => ptsd_nil)
      (fun p y hp hy _ l s H C cl fp => ?_)) (by rw [e]; rfl)))
    obtain ⟨d, _, rfl⟩ := List.mem_map.mp hy
    exact pd_tup (padd_cons (pd_var 2) (padd_cons (pd_var 3) padd_nil))
theorem sub2_mem {as l : List D} (h : l ∈ sub2 as) : l.length = 2 := by
  obtain ⟨p, _, h⟩ := List.mem_flatMap.mp h
  obtain ⟨y, h', rfl⟩ := List.mem_map.mp h
  obtain ⟨d, _, rfl⟩ := List.mem_map.mp h'
  rfl
theorem sub3_mem {as l : List D} (h : l ∈ sub3 as) : l.length = 3 := by
  obtain ⟨p, _, h⟩ := List.mem_flatMap.mp h
  obtain ⟨y, h', rfl⟩ := List.mem_map.mp h
  rw [List.length_cons, sub2_mem h']
theorem ok_threes (F : Fun K "threes_in" "threes_in" sThrees f fd) (mE : mg "enumerate" = none) (C1 : Fg P w K mg base "pairs_in" k ["names"] (gSub sub2)) : FnOk P w K mg base CX0 (k + 1) f fd ["names"] (spF K (gSub sub3)) := by
  refine okF F scThrees (fun rs ow r ow' h => ?_) (fun cdv A outer s H E hr rs ow r ow' h => ?_)
  · obtain ⟨t, as, rfl, _⟩ := h
    rfl
  · obtain ⟨t, as, rfl, hl, rfl, rfl⟩ := h
    obtain ⟨b1, b2⟩ := sub_bound sub2 (13 * 13) (by decide) (fun as h => sub2_len as 13 h) as hl (fun p l => D.tup (p.1 :: l))
    have e := all2_combo sub2 as
    refine pbd_last (psd_ret (pd_eqD (pd_lc2 (own := [("at", 1), ("first", 2), ("pair", 3)]) [3] as.zipIdx (fun p => D.par [.int (p.2 : Nat), p.1]) (fun p => cSt t as p none)
      (fun p : D × Nat => sub2 (as.drop (p.2 + 1))) (fun _ y => .tup y) (fun p y => cSt t as p (some (.d (.tup y)))) (fun _ _ => true) (fun p y => D.tup (p.1 :: y))
      rfl scThrees.nd (pid_enumS mE (padd_cons (pd_var 0) padd_nil)) (blkOk_by (N := ["names", "at", "first", "pair"]) (sc := defScope sThrees) (by decide +kernel)) (by decide) b1 b2
      (fun p hp s H C cl fp => pgd_tup rfl (pgsd_cons (pgd_name 1 scThrees.nd) (pgsd_cons (pgd_name 2 scThrees.nd) pgsd_nil)))
      (fun p hp l s H C cl fp => pid_list (pd_cg C1 hr (Nat.le_refl _) (padd_cons (pd_slS (pd_var 0) (pod_some (pd_add (pd_var 1) pd_int)) pod_none) padd_nil) ⟨t, _, rfl, by rw [cut_drop, List.length_drop]; omega, by rw [cut_drop], rfl⟩))
      (fun p y hp hy s H C cl fp => pgd_name 3 scThrees.nd)
      (fun p y hp hy l s H C cl fp => ptsd_nil)
      (fun p y hp hy _ l s H C cl fp => ?_)) (by rw [e]; rfl)))
    have h2 := sub2_mem hy
    exact pd_eqD (pd_tup (padd_cons (pd_var 2) (padd_star (pd_var 3) padd_nil)) (by simp [h2])) (by simp)
theorem ok_fours (F : Fun K "fours_in" "fours_in" sFours f fd) (mE : mg "enumerate" = none) (C1 : Fg P w K mg base "threes_in" k ["names"] (gSub sub3)) : FnOk P w K mg base CX0 (k + 1) f fd ["names"] (spF K (gSub sub4)) := by
  refine okF F scFours (fun rs ow r ow' h => ?_) (fun cdv A outer s H E hr rs ow r ow' h => ?_)
  · obtain ⟨t, as, rfl, _⟩ := h
    rfl
  · obtain ⟨t, as, rfl, hl, rfl, rfl⟩ := h
    obtain ⟨b1, b2⟩ := sub_bound sub3 (13 * (13 * 13)) (by decide) (fun as h => sub3_len as 13 h) as hl (fun p l => D.tup (p.1 :: l))
    have e := all2_combo sub3 as
    refine pbd_last (psd_ret (pd_eqD (pd_lc2 (own := [("at", 1), ("first", 2), ("three", 3)]) [3] as.zipIdx (fun p => D.par [.int (p.2 : Nat), p.1]) (fun p => cSt t as p none)
      (fun p : D × Nat => sub3 (as.drop (p.2 + 1))) (fun _ y => .tup y) (fun p y => cSt t as p (some (.d (.tup y)))) (fun _ _ => true) (fun p y => D.tup (p.1 :: y))
      rfl scFours.nd (pid_enumS mE (padd_cons (pd_var 0) padd_nil)) (blkOk_by (N := ["names", "at", "first", "three"]) (sc := defScope sFours) (by decide +kernel)) (by decide) b1 b2
      (fun p hp s H C cl fp => pgd_tup rfl (pgsd_cons (pgd_name 1 scFours.nd) (pgsd_cons (pgd_name 2 scFours.nd) pgsd_nil)))
      (fun p hp l s H C cl fp => pid_list (pd_cg C1 hr (Nat.le_refl _) (padd_cons (pd_slS (pd_var 0) (pod_some (pd_add (pd_var 1) pd_int)) pod_none) padd_nil) ⟨t, _, rfl, by rw [cut_drop, List.length_drop]; omega, by rw [cut_drop], rfl⟩))
      (fun p y hp hy s H C cl fp => pgd_name 3 scFours.nd)
      (fun p y hp hy l s H C cl fp => ptsd_nil)
      (fun p y hp hy _ l s H C cl fp => ?_)) (by rw [e]; rfl)))
    have h2 := sub3_mem hy
    exact pd_eqD (pd_tup (padd_cons (pd_var 2) (padd_star (pd_var 3) padd_nil)) (by simp [h2])) (by simp)
end
end Bl
set_option Elab.async false
set_option linter.all false
set_option maxRecDepth 100000
set_option maxHeartbeats 4000000
namespace Bl
open PySem PySem.Spec PyProof.Rows L2
/-- a def whose body ends without return -/
theorem okFN {P : Program} {w : World} {K : PySem.W.Frag} {mg : Str → Option Value} {base : Heap} {xn qual : Str} {sst : Stmt} {f : Addr} {fd : FuncData} {N ps : List Str} {k : Nat} {g : GG} (F : Fun K xn qual sst f fd) (SC : FnScope N ps (defScope sst)) (len : ∀ rs ow r ow', g rs ow r ow' → rs.length = ps.length)
    (hbody : ∀ (cdv : Value) (A : Around) (outer : List Env) (s : Shared) (H : Hp) (E : XK), Room k (A.deeper (envOfC qual (defScope sst) s.heap.objs.size f cdv)) → ∀ rs ow r ow', g rs ow r ow' → r = .d .non ∧
      ∃ st', PBD (cxOf CX0 P w K mg base N qual (defScope sst) f cdv A outer s H E).nox (startD N rs) ow (defBody sst) (.nx st' ow')) : FnOk P w K mg base CX0 (k + 1) f fd ps (spF K g) := by
  refine F.ok SC (fun vs H Q E h => ?_) (fun cdv A outer s H vs Q E hr h => ?_)
  · obtain ⟨S, rs, ow, r, ow', h1, h2, h3, _⟩ := h
    rw [h1.length, len _ _ _ _ h3]
  · obtain ⟨S, rs, ow, r, ow', h1, h2, h3, q⟩ := h
    obtain ⟨rfl, st', hb⟩ := hbody cdv A outer s H E hr rs ow r ow' h3
    exact ⟨_, hb, S, start_slots h1, h2, fun S' σ' H' f sl o => q S' .non H' f o (.d .non)⟩
def tyS (t : Bool) : String := if t then "tuple" else "list"
theorem tyB_sq (t : Bool) (l : List D) : tyB (sqD t l) = some (tyS t) := by cases t <;> rfl
/-- signs as handed in: a mutable list, a list or a tuple -/
def SgR (ns : List Int) (ow : List OB) (r : R) : Prop := (∃ k, r = .own k ∧ ow[k]? = some (.l (ns.map D.int))) ∨ ∃ t, r = .d (sqD t (ns.map D.int))
theorem getD_of {l : List D} {i : Nat} {x : D} (h : l[i]? = some x) : l.getD i .non = x := by rw [List.getD_eq_getElem?_getD, h]; rfl
theorem WDI.imp {K : PySem.W.Frag} {S : List Addr} {H : Hp} {J : It} {xs : List D} {I I' : List OB → Prop} (h : WDI K S H J xs I) (hi : ∀ ow, I' ow → I ow) : WDI K S H J xs I' where
  goes := fun i H2 hl ⟨S2, ow2, f, o, p⟩ => h.goes i H2 hl ⟨S2, ow2, f, o, hi _ p⟩
  stops := fun H2 ⟨S2, ow2, f, o, p⟩ => h.stops H2 ⟨S2, ow2, f, o, hi _ p⟩
  yields := fun i H2 x H3 hl ⟨S2, ow2, f, o, p⟩ y => by
    obtain ⟨g1, g2⟩ := h.yields i H2 x H3 hl ⟨S2, ow2, f, o, hi _ p⟩ y
    exact ⟨g1, fun S2 ow2 f o p => g2 S2 ow2 f o (hi _ p)⟩
theorem pidi_imp {X : Cx} {st : Sta} {ow ow1 : List OB} {tg e : Expr} {xs : List D} {I I' : List OB → Prop} (h : PIDI X st ow tg e xs ow1 I) (hi : ∀ ow, I' ow → I ow) : PIDI X st ow tg e xs ow1 I' := h.imp fun σ H Q ⟨S, sl, o, q⟩ => ⟨S, sl, o, fun S1 H1 J f1 o1 w1 => q S1 H1 J f1 o1 (w1.imp hi)⟩
theorem pidi_enumSg {X : Cx} {st : Sta} {ow ow1 : List OB} {e : Expr} {sg : R} {ns : List Int} {elts : List Expr} {kk : Nat} {p pos tpos : Pos} (hm : X.mg "enumerate" = none) (ha : PD X st ow e sg ow1) (hs : SgR ns ow1 sg) (hg : Gl X "enumerate" := by rfl) (hst : starEach [e] X.env = [(false, eval e X.env)] := by rfl) :
    PIDI X st ow (.Tuple elts kk tpos) (.Call (.Name "enumerate" p) [e] [] pos) (enumD (ns.map D.int)) ow1 (fun ow2 => SgR ns ow2 sg) := by
  rcases hs with ⟨k, rfl, hk⟩ | ⟨t, rfl⟩
  · exact pidi_imp (pidi_enumO hm ha hk hg hst) fun ow2 h => by
      rcases h with ⟨k', e, h⟩ | ⟨t, e⟩
      · cases e; exact h
      · cases e
  · exact pidi_imp (pidi_of (pid_enumS hm (padd_cons ha padd_nil hst) hg hst)) fun _ _ => trivial
section
variable {P : Program} {w : World} {K : PySem.W.Frag} {mg : Str → Option Value} {base : Heap} {f : Addr} {fd : FuncData} {k : Nat}
abbrev sCheckSigns : Stmt := topS 27
theorem scCheckSigns : FnScope ["signs", "many", "at", "sign"] ["signs", "many"] (defScope sCheckSigns) := ⟨rfl, rfl, rfl, by decide +kernel, rfl, by decide +kernel, by decide +kernel⟩
def gCheckSigns : GG := fun rs ow r ow' => ∃ (sg : R) (ns : List Int) (m : Int), rs = [sg, .d (.int m)] ∧ SgR ns ow sg ∧ (ns.length : Int) = m ∧ (∀ n ∈ ns, -1 ≤ n ∧ n ≤ 1) ∧ r = .d .non ∧ ow' = ow
theorem isSg_of {ns : List Int} (h : ∀ n ∈ ns, -1 ≤ n ∧ n ≤ 1) {i : Nat} {d : D} (hi : (ns.map D.int)[i]? = some d) : ∃ n, d = .int n ∧ isSg d = true := by
  obtain ⟨n, h1, rfl⟩ := map_some_of hi
  have := h n (List.mem_of_getElem? h1)
  exact ⟨n, rfl, by show (decide (-1 ≤ n) && decide (n ≤ 1)) = true; simp [this.1, this.2]⟩
theorem enumD_some {ds : List D} {i : Nat} {d : D} (h : (enumD ds)[i]? = some d) : ∃ x, ds[i]? = some x ∧ d = .par [.int (i : Nat), x] := by
  cases e : ds[i]? with
  | none =>
    have : (enumD ds).length ≤ i := by rw [enumD_len]; exact List.getElem?_eq_none_iff.mp e
    rw [List.getElem?_eq_none this] at h
    cases h
  | some x =>
    rw [enumD_get e] at h
    exact ⟨x, rfl, (Option.some.inj h).symm⟩
theorem ok_checkSigns (F : Fun K "check_signs" "check_signs" sCheckSigns f fd) (C1 : Fg P w K mg base "is_sign" k ["value"] gIsSign) (mI : mg "isinstance" = none) (mL : mg "list" = none) (mT : mg "tuple" = none) (mN : mg "len" = none) (mE : mg "enumerate" = none) : FnOk P w K mg base CX0 (k + 1) f fd ["signs", "many"] (spF K gCheckSigns) := by
  refine okFN F scCheckSigns (fun rs ow r ow' h => ?_) (fun cdv A outer s H E hr rs ow r ow' h => ?_)
  · obtain ⟨sg, ns, m, rfl, _⟩ := h
    rfl
  · obtain ⟨sg, ns, m, rfl, hs, hm, hns, rfl, rfl⟩ := h
    subst hm
    refine ⟨rfl, [some sg, some (.d (.int (ns.length : Nat))), none, none], ?_⟩
    refine pbd_skip (ow1 := ow') (bl := false) ?_ rfl ?_
    · rcases hs with ⟨k, rfl, hk⟩ | ⟨t, rfl⟩
      · exact ptd_eqB (ptd_bool (pwd_or (ptd_not (ptd_val (pd_isO2 (n := "list") (m := "tuple") mI (pd_var 0) (pd_tup (padd_cons (pd_ty mL) (padd_cons (pd_ty mT) padd_nil))) hk hk true false))) (fun _ => pwd_or1 (ptd_ne (pd_lenO mN (pd_var 0) hk) (pd_var 1))))) (by simp)
      · exact ptd_eqB (ptd_bool (pwd_or (ptd_not (ptd_val (pd_isT2 (n := "list") (m := "tuple") mI (padd_cons (pd_var 0) (padd_cons (pd_tup (padd_cons (pd_ty mL) (padd_cons (pd_ty mT) padd_nil))) padd_nil)) (!t) t (tyB_sq t _) (by cases t <;> decide +kernel) (by cases t <;> decide +kernel)))) (fun _ => pwd_or1 (ptd_ne (pd_lenS mN (padd_cons (pd_var 0) padd_nil)) (pd_var 1))))) (by cases t <;> simp)
    refine pbd_cons (?_ : PSD _ _ _ _ (.nx _ ow')) pbd_nil
    refine psd_forK [2, 3] (fun _ => [some sg, some (.d (.int (ns.length : Nat))), none, none]) (fun _ => ow') none (fun i => [some sg, some (.d (.int (ns.length : Nat))), some (.d (.int (i : Nat))), some (.d ((ns.map D.int).getD i .non))]) (fun i => .nx [some sg, some (.d (.int (ns.length : Nat))), none, none] ow') PassesOwn.never rfl _ (pidi_enumSg mE (pd_var 0) hs) (fun _ => hs) ⟨rfl, fun i r h => h⟩ rfl (fun i d hd _ => ?_) (fun i d hd _ => ?_) (fun i hi _ => .inl rfl) rfl
    · obtain ⟨x, h1, rfl⟩ := enumD_some hd
      rw [getD_of h1]
      exact pgd_tup rfl (pgsd_cons (pgd_name 2 scCheckSigns.nd) (pgsd_cons (pgd_name 3 scCheckSigns.nd) pgsd_nil))
    · obtain ⟨x, h1, rfl⟩ := enumD_some hd
      rw [getD_of h1]
      obtain ⟨n, rfl, h2⟩ := isSg_of hns h1
      exact pbd_weak (pbd_skip (ptd_not (ptd_val (pd_cg C1 hr (Nat.le_refl _) (padd_cons (pd_var 3) padd_nil) ⟨.int n, "int", rfl, rfl, rfl, rfl⟩))) (by rw [h2]; rfl) pbd_nil) rfl (by (intro i r h; rcases i with _ | _ | _ | _ | _ | _ | _ | _ | _ | i <;> first | exact h | cases h))
end
end Bl
set_option Elab.async false
set_option linter.all false
set_option maxRecDepth 100000
set_option maxHeartbeats 4000000
namespace Bl
open PySem PySem.Spec PyProof.Rows L2
theorem lookup_putD (f g : Str) (v : D) : ∀ fs : List (Str × D), (putD f v fs).lookup g = if g = f then some v else fs.lookup g
  | [] => by
    show List.lookup g [(f, v)] = _
    rw [List.lookup_cons]
    by_cases e : g = f
    · rw [if_pos e, show (g == f) = true from by simpa using e]
    · rw [if_neg e, show (g == f) = false from by simpa using e]
  | (h, x) :: r => by
    unfold putD
    by_cases e : h = f
    · rw [if_pos e, List.lookup_cons, List.lookup_cons]
      by_cases e2 : g = h
      · rw [show (g == h) = true from by simpa using e2, if_pos (e2.trans e)]
      · rw [show (g == h) = false from by simpa using e2, if_neg (fun z => e2 (z.trans e.symm))]
    · rw [if_neg e, List.lookup_cons, List.lookup_cons]
      by_cases e2 : g = h
      · rw [show (g == h) = true from by simpa using e2, if_neg (fun z => e (e2.symm.trans z))]
      · rw [show (g == h) = false from by simpa using e2]
        exact lookup_putD f g v r
def rngZ (n : Int) : List Int := (List.range n.toNat).map fun (i : Nat) => (0 + (i : Int))
theorem rngD_Z (n : Int) : rngD 0 n.toNat = (rngZ n).map D.int := by
  unfold rngD rngZ
  rw [List.map_map]
  rfl
theorem rngZ_len (n : Int) : (rngZ n).length = n.toNat := by unfold rngZ; rw [List.length_map, List.length_range]
def tabD (n : Int) (ns : List Int) : List (List Key × D) := ((sub3 (rngZ n)).map keyI).zip (ns.map D.int)
def chF (n : Int) (ns : List Int) : List (Str × D) := putD "_table" (.dT (tabD n ns)) (putD "lines" (.tup ((rngZ n).map D.int)) (putD "signs" (.tup (ns.map D.int)) (putD "size" (.int n) [])))
theorem ns1 : ¬ (("lines" : Str) = "_table") := by decide +kernel
theorem ns2 : ¬ (("signs" : Str) = "_table") := by decide +kernel
theorem ns3 : ¬ (("signs" : Str) = "lines") := by decide +kernel
theorem ns4 : ¬ (("size" : Str) = "_table") := by decide +kernel
theorem ns5 : ¬ (("size" : Str) = "lines") := by decide +kernel
theorem ns6 : ¬ (("size" : Str) = "signs") := by decide +kernel
theorem chF_table (n : Int) (ns : List Int) : (chF n ns).lookup ("_table" : Str) = some (.dT (tabD n ns)) := by unfold chF; rw [lookup_putD, if_pos rfl]
theorem chF_lines (n : Int) (ns : List Int) : (chF n ns).lookup ("lines" : Str) = some (.tup ((rngZ n).map D.int)) := by unfold chF; rw [lookup_putD, if_neg ns1, lookup_putD, if_pos rfl]
theorem chF_signs (n : Int) (ns : List Int) : (chF n ns).lookup ("signs" : Str) = some (.tup (ns.map D.int)) := by unfold chF; rw [lookup_putD, if_neg ns2, lookup_putD, if_neg ns3, lookup_putD, if_pos rfl]
theorem chF_size (n : Int) (ns : List Int) : (chF n ns).lookup ("size" : Str) = some (.int n) := by unfold chF; rw [lookup_putD, if_neg ns4, lookup_putD, if_neg ns5, lookup_putD, if_neg ns6, lookup_putD, if_pos rfl]
theorem chF_no (n : Int) (ns : List Int) {m : Str} (h1 : ¬ m = "_table") (h2 : ¬ m = "lines") (h3 : ¬ m = "signs") (h4 : ¬ m = "size") : (chF n ns).lookup m = none := by unfold chF; rw [lookup_putD, if_neg h1, lookup_putD, if_neg h2, lookup_putD, if_neg h3, lookup_putD, if_neg h4]; rfl
theorem put_le (f : Str) (v : D) : ∀ gs : List (Str × D), (putD f v gs).length ≤ gs.length + 1
  | [] => Nat.le_refl _
  | (g, x) :: r => by
    unfold putD
    split
    · exact Nat.le_succ _
    · exact Nat.succ_le_succ (put_le f v r)
theorem chart_facts : ∀ m : Nat, m < 14 → chooseZ (m : Int) 3 = ((sub3 (rngZ m)).length : Int) ∧ (sub3 (rngZ m)).Nodup := by decide +kernel
theorem chart_fact {n : Int} (h1 : 1 ≤ n) (h2 : n ≤ 13) : chooseZ n 3 = ((sub3 (rngZ n)).length : Int) ∧ (sub3 (rngZ n)).Nodup := by
  have := chart_facts n.toNat (by omega)
  rwa [show ((n.toNat : Nat) : Int) = n by omega] at this
/-- a chart -/
abbrev chartD (C : Addr) (n : Int) (ns : List Int) : D := .ins C (chF n ns)
/-- what the class object of Chart says -/
structure ChTxt (K : PySem.W.Frag) (C : Addr) : Prop where
  cl : Cls K C
  size : NoAttr K C "size"
  signs : NoAttr K C "signs"
  lines : NoAttr K C "lines"
  table : NoAttr K C "_table"
section
variable {P : Program} {w : World} {K : PySem.W.Frag} {mg : Str → Option Value} {base : Heap} {f : Addr} {fd : FuncData} {k : Nat} {C : Addr}
theorem pd_tupleSg {X : Cx} {st : Sta} {ow ow1 : List OB} {e : Expr} {sg : R} {ns : List Int} {p pos : Pos} (hm : X.mg "tuple" = none) (ha : PD X st ow e sg ow1) (hs : SgR ns ow1 sg) (hg : Gl X "tuple" := by rfl) (he : starEach [e] X.env = (false, eval e X.env) :: starEach [] X.env := by rfl) : PD X st ow (.Call (.Name "tuple" p) [e] [] pos) (.d (.tup (ns.map D.int))) ow1 := by
  rcases hs with ⟨k, rfl, hk⟩ | ⟨t, rfl⟩
  · exact pd_tupleO hm ha hk hg he
  · cases t with
    | true => exact pd_tupleT hm (padd_cons ha padd_nil he) rfl hg he
    | false => exact pd_tupleL hm (padd_cons ha padd_nil he) hg he
abbrev sInit : Stmt := inClass (topS 34) 1
theorem scInit : FnScope ["self", "size", "signs"] ["self", "size", "signs"] (defScope sInit) := ⟨rfl, rfl, rfl, by decide +kernel, rfl, by decide +kernel, by decide +kernel⟩
def gInit : GI := fun rs ow gs ow' => ∃ (n : Int) (sg : R) (ns : List Int), rs = [.d (.int n), sg] ∧ SgR ns ow sg ∧ 1 ≤ n ∧ n ≤ 13 ∧ ns.length = (sub3 (rngZ n)).length ∧ (∀ n ∈ ns, -1 ≤ n ∧ n ≤ 1) ∧ NoIow ow ∧ gs = chF n ns ∧ ow' = ow
theorem noI_ints (ns : List Int) : NoI (.tup (ns.map D.int)) := .tup (noIs_ints ns)
theorem noI_tab (n : Int) (ns : List Int) : NoI (.dT (tabD n ns)) := .dT fun p hp => noIs_ints ns _ (List.of_mem_zip hp).2
theorem ok_init (F : Fun K "__init__" "Chart.__init__" sInit f fd) (T : ChTxt K C) (C1 : Fg P w K mg base "check_size" k ["size"] gCheckSize) (C2 : Fg P w K mg base "check_signs" k ["signs", "many"] gCheckSigns) (C3 : Fg P w K mg base "choose" k ["n", "k"] gChoose) (C4 : Fg P w K mg base "threes_in" k ["names"] (gSub sub3))
    (mT : mg "tuple" = none) (mR : mg "range" = none) (mD : mg "dict" = none) (mZ : mg "zip" = none) : FnOk P w K mg base CX0 (k + 1) f fd ["self", "size", "signs"] (spI K C gInit) := by
  refine okI F scInit (fun rs ow gs ow' h => ?_) (fun cdv A outer s H E hr rs ow gs ow' h => ?_) (fun rs ow gs ow' h => ?_)
  · obtain ⟨n, sg, ns, rfl, _⟩ := h
    rfl
  · obtain ⟨n, sg, ns, rfl, hs, h1, h2, hl, hns, no, rfl, rfl⟩ := h
    obtain ⟨e1, e2⟩ := chart_fact h1 h2
    refine ⟨[none, some (.d (.int n)), some sg], ?_⟩
    refine pbi_cons (psi_expr (pd_cg C1 hr (Nat.le_refl _) (padd_cons (pd_var 1) padd_nil) ⟨n, rfl, h1, by omega, rfl, rfl⟩) no) ?_
    refine pbi_cons (psi_expr (pd_cg C2 hr (Nat.le_refl _) (pad_cons (pd_var 2) (pad_cons (pd_cg C3 hr (Nat.le_refl _) (padd_cons (pd_var 1) (padd_cons pd_int padd_nil)) ⟨n, 3, rfl, by omega, rfl, rfl⟩) pad_nil)) ⟨sg, ns, _, rfl, hs, by rw [e1, hl], hns, rfl, rfl⟩) no) ?_
    refine pbi_cons (psi_fld (pd_var 1) no (.int n) T.cl T.size (by decide)) ?_
    refine pbi_cons (psi_fld (pd_tupleSg mT (pd_var 2) hs) no (noI_ints ns) T.cl T.signs (by show 1 < 1000; decide)) ?_
    refine pbi_cons (psi_fld (pd_eqD (pd_tupRg rfl mT mR (pd_var 1) ⟨by omega, by omega⟩) (by rw [rngD_Z])) no (noI_ints (rngZ n)) T.cl T.lines (Nat.lt_of_le_of_lt (put_le _ _ _) (Nat.succ_lt_succ (Nat.lt_of_le_of_lt (put_le _ _ _) (by show 1 < _; decide))))) ?_
    refine pbi_cons (psi_fld (pd_dictZip (dd := .tup (ns.map D.int)) (ds := ns.map D.int) (sub3 (rngZ n)) rfl (hr.units) mD mZ (padd_cons (pd_cg C4 hr (Nat.le_refl _) (padd_cons (pd_fld (pd_var 0) T.cl T.lines ?_) padd_nil) ⟨true, (rngZ n).map D.int, rfl, ?_, ?_, rfl⟩) (padd_cons (pd_fld (pd_var 0) T.cl T.signs ?_) padd_nil)) rfl ?_ e2) no (noI_tab n ns) T.cl T.table (Nat.lt_of_le_of_lt (put_le _ _ _) (Nat.succ_lt_succ (Nat.lt_of_le_of_lt (put_le _ _ _) (Nat.succ_lt_succ (Nat.lt_of_le_of_lt (put_le _ _ _) (by show 1 < _; decide))))))) pbi_nil
    · rw [lookup_putD, if_pos rfl]; rfl
    · rw [List.length_map, rngZ_len]; omega
    · rw [sub3_map, List.map_map]; rfl
    · rw [lookup_putD, if_neg ns3, lookup_putD, if_pos rfl]
    · rw [List.length_map, hl]
  · obtain ⟨n, sg, ns, rfl, _⟩ := h
    show 2 < 3
    decide
end
end Bl
set_option Elab.async false
set_option linter.all false
set_option maxRecDepth 100000
set_option maxHeartbeats 4000000
namespace Bl
open PySem PySem.Spec PyProof.Rows L2
/-! ### a comprehension's list as a mutable one; mutable lists that become data -/
section
variable {X : Cx} {e a b c o tg iter elt tg1 iter1 : Expr} {es ifs ifs1 : List Expr} {scope : Scope} {own : List (Str × Nat)} {st st1 st2 : Sta} {ow ow1 ow2 ow3 : List OB} {r : R} {rs : List R} {d x y z : D} {ds xs : List D} {pos p p2 : Pos}
section
variable {α : Type} (as : List α) (enc : α → D) (stx : α → Sta) (pp : α → Bool) (ff : α → D)
theorem lc_readO {K : PySem.W.Frag} {vs : List Nat} {Q : VK} {σ : L2.St} {S1 : List Addr} {H1 : Hp} {J : It} (w1 : WD K S1 H1 J (as.map enc)) (sl : Slots K S1 H1 σ st) (o1 : Owns K S1 H1 ow1) (hlen : as.length ≤ 40000)
    (k : ∀ S2 v H', Fwd S1 H1 S2 H' → Owns K S2 H' (ow1 ++ [.l ((as.filter pp).map ff)]) → DenR K S2 H' v (.own ow1.length) → Q v H') :
    ∀ D, H1 D = none → ∃ W : Nat → Nat → Hp → Prop, (∃ m, W 0 m (upd H1 D (.lst []))) ∧ ∀ i m H, W i m H →
      (J.stop i H ∧ Q (.ref D) H) ∨ (J.go i H ∧ ∃ Nx : Hp → Prop, (∀ H', Nx H' → ∃ m', m' < m ∧ W (i + 1) m' H') ∧ ∀ x H', J.yld i H x H' → lG as enc stx K vs st x (wipe σ vs) H' fun σ2 H2 => wipe σ2 vs = wipe σ vs ∧ lT as stx pp K ow1 σ2 H2 fun b H3 =>
        if b = true then lE as stx pp ff K ow1 σ2 H3 fun y H4 => ∃ acc, H4 D = some (.lst acc) ∧ acc.length < sizeLine ∧ Nx (upd H4 D (.lst (acc ++ [y]))) else Nx H3) := by
  intro D hD
  have hn := own_new (xs := []) (ds := []) o1 hD .nil
  have w1' : WD K S1 H1 J (as.map enc) := w1
  have hln : (as.map enc).length = as.length := List.length_map ..
  refine lc_it (Qd := Q (.ref D)) w1 (fun i H' => LcP K S1 H1 D ow1 (((as.take i).filter pp).map ff) H') ⟨hn.1, hn.2.1⟩ (fun i H' _ p => ⟨_, _, p.f, p.o⟩) (fun i x H' H2 hi p ⟨ex, y⟩ => ?_) (fun H' p => ?_)
  · obtain ⟨d, hd, dd⟩ := y _ _ p.f p.o
    obtain ⟨xa, hxa, rfl⟩ := map_some_of hd
    have hmem : xa ∈ as := List.mem_of_getElem? hxa
    have p2 : LcP K S1 H1 D ow1 (((as.take i).filter pp).map ff) H2 := ⟨p.f.trans p.o (.of ex), p.o.ex ex⟩
    have hts := take_succ_of hxa
    have hz : ((List.filter pp (as.take i)).map ff).length < 100000 := by
      rw [List.length_map]
      have h1 := List.length_filter_le pp (as.take i)
      rw [List.length_take] at h1
      omega
    refine ⟨⟨xa, hmem⟩, S1 ++ [D], (p2.f.slots sl).wipe vs, dd, fun σ2 sl2 hw => ⟨hw.trans (wipe_wipe σ vs), ⟨(xa, _), hmem⟩, S1 ++ [D], sl2, p2.o, fun S3 H3 f3 o3 => ?_⟩⟩
    obtain ⟨e3, p3⟩ := p2.on f3 o3
    subst e3
    have hb' : pp (xa, ((as.take i).filter pp).map ff).1 = pp xa := rfl
    show (if pp xa = true then _ else _)
    cases hb : pp xa with
    | true =>
      refine iteT ⟨⟨(xa, _), hmem, hb⟩, S1 ++ [D], f3.slots sl2, o3, fun S4 v H4 f4 o4 d4 => ?_⟩
      obtain ⟨e4, p4⟩ := p3.on f4 o4
      subst e4
      cases d4 with
      | d d4 =>
        obtain ⟨acc, h1, h2, h3⟩ := p4.app d4 hz
        refine ⟨acc, h1, h2, ?_⟩
        show LcP K S1 H1 D ow1 (((as.take (i + 1)).filter pp).map ff) _
        rw [hts, List.filter_append, List.map_append, List.filter_cons, if_pos hb]
        exact h3
    | false =>
      refine iteF ?_
      show LcP K S1 H1 D ow1 (((as.take (i + 1)).filter pp).map ff) _
      rw [hts, List.filter_append, List.map_append, List.filter_cons, if_neg (by rw [hb]; decide)]
      simpa using p3
  · have p' : LcP K S1 H1 D ow1 (((as.take (as.map enc).length).filter pp).map ff) H' := p
    rw [hln, take_all] at p'
    have hr : DenR K (S1 ++ [D]) H' (.ref D) (.own ow1.length) := .own (owns_last p'.o).choose_spec.1
    exact k _ _ _ p'.f p'.o hr
end
theorem pd_lcO {α : Type} (as : List α) (enc : α → D) (stx : α → Sta) (pp : α → Bool) (ff : α → D) (hc : X.calm = true) (hN : X.N.Nodup) (hi : PID X st ow tg iter (as.map enc) ow1) (ok : BlkOk X.N X.env.scope scope own) (hlen : as.length ≤ 40000)
    (hg : ∀ x, x ∈ as → AtBlk X scope fun Y => PGD Y (own.map (·.2)) (wipeD st (own.map (·.2))) (enc x) tg (stx x)) (ht : ∀ x, x ∈ as → ∀ l, AtBlk X scope fun Y => PTsD Y (stx x) (ow1 ++ [.l l]) ifs (pp x))
    (he : ∀ x, x ∈ as → pp x = true → ∀ l, AtBlk X scope fun Y => PD Y (stx x) (ow1 ++ [.l l]) elt (.d (ff x)) (ow1 ++ [.l l])) (hs : ∀ x, foldedSetIterable iter X.env x = pure x := by intro _; rfl) :
    PD X st ow (.ListComp elt [⟨tg, iter, ifs, 0⟩] scope pos) (.own ow1.length) (ow1 ++ [.l ((as.filter pp).map ff)]) :=
  (pe_lc (g := lG as enc stx X.K (own.map (·.2)) st) (tt := lT as stx pp X.K ow1) (te := lE as stx pp ff X.K ow1) hc hN hi ok (fun s H C cl fp => pg_ex fun x => hg x.1 x.2 s H C cl fp) (fun s H C cl fp => pts_ex fun x => ht x.1.1 x.2 x.1.2 s H C cl fp)
    (fun s H C cl fp => pe_ex fun x => he x.1.1 x.2.1 x.2.2 x.1.2 s H C cl fp) hs).imp fun σ H Q ⟨S, sl, o, q⟩ => ⟨S, sl, o, fun S1 H1 J f1 o1 w1 => lc_readO as enc stx pp ff w1 (f1.slots sl) o1 hlen fun S2 v H' g1 g2 g3 => q S2 v H' (f1.trans o1 g1) g2 g3⟩
/-- y = [..] -/
theorem psd_setLcO {α : Type} {yn : Str} {py spos : Pos} (i : Nat) (as : List α) (enc : α → D) (stx : α → Sta) (pp : α → Bool) (ff : α → D) (hc : X.calm = true) (hN : X.N.Nodup) (hi : PID X st ow tg iter (as.map enc) ow1) (ok : BlkOk X.N X.env.scope scope own) (hlen : as.length ≤ 40000)
    (hg : ∀ x, x ∈ as → AtBlk X scope fun Y => PGD Y (own.map (·.2)) (wipeD st (own.map (·.2))) (enc x) tg (stx x)) (ht : ∀ x, x ∈ as → ∀ l, AtBlk X scope fun Y => PTsD Y (stx x) (ow1 ++ [.l l]) ifs (pp x))
    (he : ∀ x, x ∈ as → pp x = true → ∀ l, AtBlk X scope fun Y => PD Y (stx x) (ow1 ++ [.l l]) elt (.d (ff x)) (ow1 ++ [.l l]))
    (hsw : swapsWith (.ListComp elt [⟨tg, iter, ifs, 0⟩] scope pos) (some (.Name yn py)) spos.line X.env = pure true := by exact sw_true rfl rfl rfl (by decide +kernel)) (hy : X.N[i]? = some yn := by rfl) (hyl : X.env.scope.names.lookup yn = some .local := by rfl) (hs : ∀ x, foldedSetIterable iter X.env x = pure x := by intro _; rfl) :
    PSD X st ow (.Assign [.Name yn py] (.ListComp elt [⟨tg, iter, ifs, 0⟩] scope pos) spos) (.nx (st.set i (some (.own ow1.length))) (ow1 ++ [.l ((as.filter pp).map ff)])) :=
  (ps_setLc (i := i) (g := lG as enc stx X.K (own.map (·.2)) st) (tt := lT as stx pp X.K ow1) (te := lE as stx pp ff X.K ow1) hc hN hy hyl hsw hi ok (fun s H C cl fp => pg_ex fun x => hg x.1 x.2 s H C cl fp) (fun s H C cl fp => pts_ex fun x => ht x.1.1 x.2 x.1.2 s H C cl fp)
    (fun s H C cl fp => pe_ex fun x => he x.1.1 x.2.1 x.2.2 x.1.2 s H C cl fp) hs).imp fun E σ H ⟨S, sl, o, q⟩ => ⟨S, sl, o, fun S1 H1 J f1 o1 w1 => lc_readO (vs := own.map (·.2)) (Q := fun x H1 => gName i x σ H1 E.nx) as enc stx pp ff w1 (f1.slots sl) o1 hlen fun S2 v H' g1 g2 g3 =>
      q S2 _ H' (f1.trans o1 g1) (((f1.trans o1 g1).slots sl).set i g3) g2⟩
/-- the mutable thing at place k read as data -/
inductive ObD : OB → D → Prop where
  | l {xs : List D} : ObD (.l xs) (.lst xs)
  | v {xs : List D} : ObD (.l xs) (.lstV xs)
  | t {gs : List (List Key × D)} : ObD (.t gs) (.dT gs)
def unD (k : Nat) (d : D) (st : Sta) : Sta := st.map fun q => match q with
  | some (.own j) => if j = k then some (.d d) else some (.own j)
  | q => q
abbrev unown (k : Nat) (l : List D) (st : Sta) : Sta := unD k (.lst l) st
theorem drop_last {K : PySem.W.Frag} {S S' : List Addr} {H H' : Hp} {b : OB} (f : Fwd S H S' H') (o : Owns K S H ow) (o' : Owns K S' H' (ow1 ++ [b])) (hl : ow.length = ow1.length) (hb : KeepG ow ow1) :
    Fwd S H S H' ∧ Owns K S H' ow1 ∧ (∀ a, a ∈ S → a ∈ S') ∧ (∀ k, k < ow1.length → S'[k]? = S[k]?) ∧ ∃ q, S'[ow1.length]? = some q ∧ ∀ dd, ObD b dd → Den K S H' (.ref q) dd := by
  obtain ⟨q, e, hnq, f1, o1, hsub, y, hq⟩ := drop_lastB f o o' hl hb
  have hlen := o1.len
  refine ⟨f1, o1, hsub, fun k hk => by rw [e, List.getElem?_append_left (by omega)], q, hq, fun dd hd => ?_⟩
  cases y with
  | l y w =>
    cases hd with
    | l => exact .lst (.inl ⟨hnq, .inl y⟩) (w.less hsub)
    | v => exact .lstV hnq y (w.less hsub)
  | t y w => cases hd; exact .dT hnq y (DenG.less hsub w)
  | g y w => cases hd
  | r y w => cases hd
theorem unown_slots {K : PySem.W.Frag} {S S' : List Addr} {H H' : Hp} {σ : L2.St} {b : OB} {dd : D} (f : Fwd S H S' H') (o : Owns K S H ow) (o' : Owns K S' H' (ow1 ++ [b])) (hl : ow.length = ow1.length) (hb : KeepG ow ow1) (hd : ObD b dd) (sl : Slots K S' H' σ st) : Slots K S H' σ (unD ow1.length dd st) := by
  obtain ⟨g1, g2, g3, g4, q, g5, g6⟩ := drop_last f o o' hl hb
  refine ⟨by rw [sl.len]; unfold unD; rw [List.length_map], fun i r e => ?_⟩
  unfold unD at e
  rw [List.getElem?_map] at e
  cases hs : st[i]? with
  | none => rw [hs] at e; cases e
  | some t =>
    rw [hs] at e
    cases t with
    | none => cases e
    | some r0 =>
      obtain ⟨v, hv, hd'⟩ := sl.sl i r0 hs
      refine ⟨v, hv, ?_⟩
      cases hd' with
      | d hd' =>
        cases e
        exact .d (hd'.less g3)
      | @own a k hk =>
        have e' : (if k = ow1.length then some (R.d dd) else some (.own k)) = some r := Option.some.inj e
        by_cases hkk : k = ow1.length
        · rw [if_pos hkk] at e'
          cases e'
          rw [hkk, g5] at hk
          cases hk
          exact .d (g6 _ hd)
        · rw [if_neg hkk] at e'
          cases e'
          have hlt : k < S'.length := (List.getElem?_eq_some_iff.mp hk).1
          have := o'.len
          rw [List.length_append] at this
          have h1 : k < ow1.length := by
            simp only [List.length_cons, List.length_nil] at this
            omega
          exact .own (by rw [← g4 k h1]; exact hk)
variable {s s2 : Stmt} {rest ss : List Stmt} {out : Out} {stA stB : Sta} {owA : List OB} {l : List D} {b : OB} {dd : D}
/-- what statement s makes is data from then on -/
theorem pbd_frzB (h1 : PSD X st ow s (.nx stB (ow1 ++ [b]))) (hl : ow.length = ow1.length) (hd : ObD b dd) (h3 : PBD X (unD ow1.length dd stB) ow1 rest out) (hb : KeepG ow ow1 := by first | exact ⟨fun _ h => h, fun _ h => h⟩ | (refine ⟨?_, ?_⟩ <;> (intro gs h; simp at h ⊢; assumption))) : PBD X st ow (s :: rest) out :=
  (pss_cons h1 h3).imp fun E σ H ⟨S, sl, o, k⟩ => ⟨S, sl, o, fun S1 σ1 H1 f1 sl1 o1 => by
    obtain ⟨g1, g2, _⟩ := drop_last f1 o o1 hl hb
    exact ⟨S, unown_slots f1 o o1 hl hb hd sl1, g2, goes_seq k g1 g2⟩⟩
theorem pbd_frz1 (h1 : PSD X st ow s (.nx stB (ow1 ++ [.l l]))) (hl : ow.length = ow1.length) (h3 : PBD X (unown ow1.length l stB) ow1 rest out) (hb : KeepG ow ow1 := by first | exact ⟨fun _ h => h, fun _ h => h⟩ | (refine ⟨?_, ?_⟩ <;> (intro gs h; simp at h ⊢; assumption))) : PBD X st ow (s :: rest) out := pbd_frzB h1 hl .l h3 hb
theorem pbd_frz2B (h1 : PSD X st ow s (.nx stA owA)) (h2 : PSD X stA owA s2 (.nx stB (ow1 ++ [b]))) (hl : ow.length = ow1.length) (hd : ObD b dd) (h3 : PBD X (unD ow1.length dd stB) ow1 rest out) (hb : KeepG ow ow1 := by first | exact ⟨fun _ h => h, fun _ h => h⟩ | (refine ⟨?_, ?_⟩ <;> (intro gs h; simp at h ⊢; assumption))) : PBD X st ow (s :: s2 :: rest) out :=
  (pss_cons h1 (pss_cons h2 h3)).imp fun E σ H ⟨S, sl, o, k⟩ => ⟨S, sl, o, fun S1 σ1 H1 f1 sl1 o1 => ⟨S1, sl1, o1, fun S2 σ2 H2 f2 sl2 o2 => by
    have f := f1.trans o1 f2
    obtain ⟨g1, g2, _⟩ := drop_last f o o2 hl hb
    exact ⟨S, unown_slots f o o2 hl hb hd sl2, g2, goes_seq k g1 g2⟩⟩⟩
theorem pbd_frz2 (h1 : PSD X st ow s (.nx stA owA)) (h2 : PSD X stA owA s2 (.nx stB (ow1 ++ [.l l]))) (hl : ow.length = ow1.length) (h3 : PBD X (unown ow1.length l stB) ow1 rest out) (hb : KeepG ow ow1 := by first | exact ⟨fun _ h => h, fun _ h => h⟩ | (refine ⟨?_, ?_⟩ <;> (intro gs h; simp at h ⊢; assumption))) : PBD X st ow (s :: s2 :: rest) out := pbd_frz2B h1 h2 hl .l h3 hb
/-- a mutable thing that nothing returned leans on is forgotten -/
theorem pbd_drop (h : PBD X st ow ss (.ret (.d d) (ow1 ++ [b]))) (hl : ow.length = ow1.length) (hb : KeepG ow ow1 := by first | exact ⟨fun _ h => h, fun _ h => h⟩ | (refine ⟨?_, ?_⟩ <;> (intro gs h; simp at h ⊢; assumption))) : PBD X st ow ss (.ret (.d d) ow1) :=
  h.imp fun E σ H ⟨S, sl, o, k⟩ => ⟨S, sl, o, fun S1 v H1 f1 o1 d1 => by
    obtain ⟨g1, g2, g3, _⟩ := drop_last f1 o o1 hl hb
    cases d1 with
    | d d1 => exact k S v H1 g1 g2 (.d (d1.less g3))⟩
theorem pd_drop (h : PD X st ow e (.d d) (ow1 ++ [b])) (hl : ow.length = ow1.length) (hb : KeepG ow ow1 := by first | exact ⟨fun _ h => h, fun _ h => h⟩ | (refine ⟨?_, ?_⟩ <;> (intro gs h; simp at h ⊢; assumption))) : PD X st ow e (.d d) ow1 :=
  PE.imp h fun σ H Q ⟨S, sl, o, k⟩ => ⟨S, sl, o, fun S1 v H1 f1 o1 d1 => by
    obtain ⟨g1, g2, g3, _⟩ := drop_last f1 o o1 hl hb
    cases d1 with
    | d d1 => exact k S v H1 g1 g2 (.d (d1.less g3))⟩
end
end Bl
set_option Elab.async false
set_option linter.all false
set_option maxRecDepth 100000
set_option maxHeartbeats 4000000
namespace Bl
open PySem PySem.Spec PyProof.Rows L2
/-! ### good_row -/
def chgL : List Int → Int
  | [a, b, c, d] => chg a b c d
  | _ => 0
def put0 (ns : List Int) (s : Int) : List Int := ns.take (ns.idxOf 0) ++ [s] ++ ns.drop (ns.idxOf 0 + 1)
def goodL (ns : List Int) : Bool := if ns.count 0 = 0 then decide (chgL ns ≤ 1) else if 1 < ns.count 0 then decide (ns.count 0 = 4) else ([1, -1].map fun s => decide (chgL (put0 ns s) ≤ 1)).all id
theorem cut_take (as : List D) (i : Nat) : cutD as none (some (i : Int)) = as.take i := by
  unfold cutD
  rw [HT.sIx_none, HT.sIx_nat, List.drop_zero, Nat.sub_zero]
  by_cases h : i ≤ as.length
  · rw [Nat.min_eq_left h]
  · rw [Nat.min_eq_right (by omega), List.take_of_length_le (Nat.le_refl _), List.take_of_length_le (by omega)]
theorem len4 {ns : List Int} (h : ns.length = 4) : ∃ a b c d, ns = [a, b, c, d] := by
  match ns, h with
  | [a, b, c, d], _ => exact ⟨a, b, c, d, rfl⟩
theorem idx0 {ns : List Int} (h : 0 < ns.count 0) : ns[ns.idxOf 0]? = some 0 ∧ ∀ m, m < ns.idxOf 0 → ns[m]? ≠ some 0 := by
  have hm : (0 : Int) ∈ ns := List.count_pos_iff.mp h
  have hlt := List.idxOf_lt_length_iff.mpr hm
  refine ⟨by rw [List.getElem?_eq_getElem hlt, List.getElem_idxOf], fun m hlm e => ?_⟩
  have h2 := List.not_of_lt_findIdx (p := (· == 0)) (xs := ns) (i := m) hlm
  have hml : m < ns.length := by omega
  rw [List.getElem?_eq_getElem hml] at e
  rw [Option.some.inj e] at h2
  exact absurd h2 (by decide)
theorem put0_len {ns : List Int} (h : 0 < ns.count 0) (h4 : ns.length = 4) (s : Int) : (put0 ns s).length = 4 := by
  have hlt := List.idxOf_lt_length_iff.mpr (List.count_pos_iff.mp h)
  unfold put0
  rw [List.length_append, List.length_append, List.length_take, List.length_drop]
  simp only [List.length_cons, List.length_nil]
  omega
theorem iv_eq (a b : Int) : decide (V.int a = V.int b) = decide (a = b) := by
  by_cases h : a = b
  · subst h; simp
  · rw [decide_eq_false (fun z => h (V.int.inj z)), decide_eq_false h]
section
variable {P : Program} {w : World} {K : PySem.W.Frag} {mg : Str → Option Value} {base : Heap} {f : Addr} {fd : FuncData} {k : Nat} {C : Addr}
abbrev sGoodRow : Stmt := topS 29
theorem scGoodRow : FnScope ["row", "zeros", "at", "sign"] ["row"] (defScope sGoodRow) := ⟨rfl, rfl, rfl, by decide +kernel, rfl, by decide +kernel, by decide +kernel⟩
def gGoodRow : GG := fun rs ow r ow' => ∃ ns : List Int, rs = [.d (.tupN (ns.map D.int))] ∧ ns.length = 4 ∧ r = .d (.bl (goodL ns)) ∧ ow' = ow
theorem ok_goodRow (F : Fun K "good_row" "good_row" sGoodRow f fd) (C1 : Fg P w K mg base "changes" k ["row"] gChanges) (mA : mg "all" = none) : FnOk P w K mg base CX0 (k + 1) f fd ["row"] (spF K gGoodRow) := by
  refine okF F scGoodRow (fun rs ow r ow' h => ?_) (fun cdv A outer s H E hr rs ow r ow' h => ?_)
  · obtain ⟨ns, rfl, _⟩ := h
    rfl
  · obtain ⟨ns, rfl, h4, rfl, rfl⟩ := h
    refine pbd_cons (psd_set 1 scGoodRow.nd (pd_tcount (pd_var 0) (padd_cons pd_int padd_nil))) ?_
    by_cases hz : ns.count 0 = 0
    · refine pbd_take (ptd_eq (pd_var 1) pd_int) (by rw [iv_eq, hz]; rfl) ?_
      obtain ⟨a, b, c, d, rfl⟩ := len4 h4
      refine pbd_last (psd_ret (pd_eqB (pd_le (pd_cg C1 hr (Nat.le_refl _) (padd_cons (pd_var 0) padd_nil) ⟨_, a, b, c, d, rfl, rfl, rfl, rfl⟩) pd_int) ?_))
      unfold goodL
      rw [if_pos hz]
      rfl
    · refine pbd_skip (ptd_eq (pd_var 1) pd_int) (by rw [iv_eq]; exact decide_eq_false (by omega)) ?_
      by_cases h1 : 1 < ns.count 0
      · refine pbd_take (ptd_gt (pd_var 1) pd_int) (by exact decide_eq_true (by omega)) ?_
        refine pbd_last (psd_ret (pd_eqB (pd_eq (pd_var 1) pd_int) ?_))
        unfold goodL
        rw [if_neg hz, if_pos h1, iv_eq]
        by_cases h5 : ns.count 0 = 4
        · rw [decide_eq_true h5, decide_eq_true (by omega)]
        · rw [decide_eq_false h5, decide_eq_false (by omega)]
      · refine pbd_skip (ptd_gt (pd_var 1) pd_int) (by exact decide_eq_false (by omega)) ?_
        have hp : 0 < ns.count 0 := by omega
        obtain ⟨i1, i2⟩ := idx0 hp
        refine pbd_cons (psd_set 2 scGoodRow.nd (pd_tindex (pd_var 0) (padd_cons pd_int padd_nil) i1 i2)) ?_
        have lst : [some (R.d (.tupN (ns.map D.int))), some (R.d (.int (ns.count 0 : Nat))), some (R.d (.int (ns.idxOf 0 : Nat))), none] = (((startD ["row", "zeros", "at", "sign"] [R.d (D.tupN (List.map D.int ns))]).set 1 (some (R.d (D.int ↑(List.count 0 ns))))).set 2 (some (R.d (D.int ↑(List.idxOf 0 ns))))) := rfl
        refine pbd_last (psd_ret (pd_eqB (pd_all (bs := [1, -1].map fun s => decide (chgL (put0 ns s) ≤ 1)) rfl mA (padd_cons (pd_eqD (pd_lc (own := [("sign", 3)]) ([1, -1] : List Int) D.int (fun s => [some (.d (.tupN (ns.map D.int))), some (.d (.int (ns.count 0 : Nat))), some (.d (.int (ns.idxOf 0 : Nat))), some (.d (.int s))]) (fun _ => true) (fun s => .bl (decide (chgL (put0 ns s) ≤ 1)))
          rfl scGoodRow.nd (pid_eq (pid_tup (pd_tup (padd_cons pd_int (padd_cons (pd_neg pd_int) padd_nil)))) rfl) (blkOk_by (N := ["row", "zeros", "at", "sign"]) (sc := defScope sGoodRow) (by decide +kernel)) (by decide)
          (fun s hs _ H C cl fp => pgd_name 3 scGoodRow.nd) (fun s hs l _ H C cl fp => ptsd_nil) (fun s hs _ l _ H C cl fp => ?_)) ?_) padd_nil)) ?_))
        · have e1 : cutD (ns.map D.int) none (some ((ns.idxOf 0 : Nat) : Int)) ++ [D.int s] ++ cutD (ns.map D.int) (some (((ns.idxOf 0 : Nat) : Int) + 1)) none = (put0 ns s).map D.int := by
            rw [cut_take, cut_drop]
            unfold put0
            rw [List.map_append, List.map_append, List.map_take, List.map_drop]
            rfl
          have hlen := put0_len hp h4 s
          have hl2 : ((cutD (ns.map D.int) none (some ((ns.idxOf 0 : Nat) : Int)) ++ [D.int s]) ++ cutD (ns.map D.int) (some (((ns.idxOf 0 : Nat) : Int) + 1)) none).length = 4 := by rw [e1, List.length_map, hlen]
          rw [List.length_append] at hl2
          have hl3 := hl2
          rw [List.length_append] at hl3
          obtain ⟨a, b, c, d, e⟩ := len4 hlen
          refine pd_eqB (pd_le (pd_cg C1 hr (Nat.le_refl _) (padd_cons (pd_catN (pd_catN (pd_slN (pd_var 0) pod_none (pod_some (pd_var 2))) (pd_tupN (padd_cons (pd_var 3) padd_nil)) (by omega)) (pd_slN (pd_var 0) (pod_some (pd_add (pd_var 2) pd_int)) pod_none) (by omega)) padd_nil) ⟨_, a, b, c, d, rfl, by rw [e1, e]; rfl, rfl, rfl⟩) pd_int) (by rw [e]; rfl)
        · rfl
        · unfold goodL
          rw [if_neg hz, if_neg h1]
end
end Bl
set_option Elab.async false
set_option linter.all false
set_option maxRecDepth 100000
set_option maxHeartbeats 4000000
namespace Bl
open PySem PySem.Spec PyProof.Rows L2
section
variable {X : Cx} {tg iter : Expr} {body rest : List Stmt} {st base : Sta} {ow ow1 : List OB} {pos : Pos} {out : Out}
/-- for x in xs: leaves at the first x that pp tells, by rr x -/
theorem pbd_find {α : Type} (vs : List Nat) (base : Sta) (as : List α) (enc : α → D) (pp : α → Bool) (rr : α → R) (stx : α → Sta) (hp : PassesOwn (model X.prog X.w) X.A X.env X.xe) (hc : X.calm = true) (hi : PID X st ow tg iter (as.map enc) ow1) (h0 : st.length = base.length ∧ ∀ (i : Nat) r, base[i]? = some (some r) → st[i]? = some (some r))
    (hg : ∀ x, x ∈ as → PGD X vs base (enc x) tg (stx x)) (hb1 : ∀ x, x ∈ as → pp x = false → PBD X (stx x) ow1 body (.nx base ow1)) (hb2 : ∀ x, x ∈ as → pp x = true → PBD X (stx x) ow1 body (.ret (rr x) ow1))
    (hend : as.find? pp = none → PBD X base ow1 rest out) (hf : ∀ x, as.find? pp = some x → out = .ret (rr x) ow1) (hs : ∀ x, foldedSetIterable iter X.env x = pure x := by intro _; rfl) : PBD X st ow (.For tg iter body [] pos :: rest) out := by
  have hgx : ∀ i d, (as.map enc)[i]? = some d → PGD X vs base d tg ((as[i]?).elim base stx) := fun i d hd => by
    obtain ⟨x, h1, rfl⟩ := map_some_of hd
    rw [h1]
    exact hg x (List.mem_of_getElem? h1)
  have hbx : ∀ i d, (as.map enc)[i]? = some d → PBD X ((as[i]?).elim base stx) ow1 body ((as[i]?).elim (.nx base ow1) fun x => if pp x = true then .ret (rr x) ow1 else .nx base ow1) := fun i d hd => by
    obtain ⟨x, h1, rfl⟩ := map_some_of hd
    rw [h1]
    show PBD X (stx x) ow1 body (if pp x = true then .ret (rr x) ow1 else .nx base ow1)
    cases hpx : pp x with
    | true => rw [if_pos rfl]; exact hb2 x (List.mem_of_getElem? h1) hpx
    | false => rw [if_neg (by decide)]; exact hb1 x (List.mem_of_getElem? h1) hpx
  cases hfd : as.find? pp with
  | none =>
    refine pbd_cons (psd_forG vs (fun _ => base) (fun _ => ow1) none _ _ hp hc hi h0 rfl (fun i d hd _ => hgx i d hd) (fun i d hd _ => hbx i d hd) (fun i hil _ => ?_) rfl hs) (hend hfd)
    rw [List.length_map] at hil
    rw [if_neg (fun z => nomatch z), List.getElem?_eq_getElem hil]
    have hn : ¬ pp as[i] = true := List.find?_eq_none.mp hfd _ (List.getElem_mem hil)
    show Onw _ _ i (if pp as[i] = true then _ else _)
    rw [if_neg hn]
    exact .inl rfl
  | some x =>
    obtain ⟨hpx, i0, hi0, hx, hbefore⟩ := List.find?_eq_some_iff_getElem.mp hfd
    have ho := hf x hfd
    subst ho
    refine pbd_last (psd_forG vs (fun _ => base) (fun _ => ow1) (some i0) _ _ hp hc hi h0 rfl (fun i d hd _ => hgx i d hd) (fun i d hd _ => hbx i d hd) (fun i hil hmi => ?_) (show i0 < (as.map enc).length from Nat.lt_of_lt_of_eq hi0 (List.length_map ..).symm) hs)
    rw [List.length_map] at hil
    have hle : i ≤ i0 := hmi i0 rfl
    by_cases hii : some i0 = some i
    · rw [if_pos hii]
      cases hii
      have e1 : (as[i0]?).elim (Out.nx base ow1) (fun x => if pp x = true then .ret (rr x) ow1 else .nx base ow1) = .ret (rr x) ow1 := by
        rw [List.getElem?_eq_getElem hi0, hx]
        show (if pp x = true then _ else _) = _
        rw [if_pos hpx]
      rw [e1]
    · rw [if_neg hii, List.getElem?_eq_getElem hil]
      have hlt : i < i0 := by
        have : i ≠ i0 := fun z => hii (by rw [z])
        omega
      have hn : ¬ pp as[i] = true := by simpa using hbefore i hlt
      show Onw _ _ i (if pp as[i] = true then _ else _)
      rw [if_neg hn]
      exact .inl rfl
end
end Bl
set_option Elab.async false
set_option linter.all false
set_option maxRecDepth 100000
set_option maxHeartbeats 4000000
namespace Bl
open PySem PySem.Spec PyProof.Rows L2
/-- a method, a property of a class and what it is worth -/
def Mt (P : Program) (w : World) (K : PySem.W.Frag) (mg : Str → Option Value) (base : Heap) (C : Addr) (mn : Str) (k : Nat) (ps : List Str) (g : GG) : Prop :=
  ∃ f fd, FnOk P w K mg base CX0 k f fd ps (spF K g) ∧ Meth K C mn f ∧ Binds K fd ps []
def Pt (P : Program) (w : World) (K : PySem.W.Frag) (mg : Str → Option Value) (base : Heap) (C : Addr) (mn : Str) (k : Nat) (ps : List Str) (g : GG) : Prop :=
  ∃ pa f fd, FnOk P w K mg base CX0 k f fd ps (spF K g) ∧ PropOf K C mn pa f ∧ Binds K fd ps []
section
variable {X : Cx} {e o : Expr} {es : List Expr} {st : Sta} {ow ow1 ow2 ow3 : List OB} {rs : List R} {r : R} {p pos apos : Pos} {k j : Nat} {ps : List Str} {g : GG} {mn : Str} {C : Addr} {gs : List (Str × D)}
theorem pd_mt {pl : Sem Bool} (F : Mt X.prog X.w X.K X.mg X.base C mn k ps g) (ho : PD X st ow o (.d (.ins C gs)) ow1) (c : Cls X.K C) (hr : Room j X.A) (hj : k ≤ j) (ha : PAD X st ow1 (e :: es) rs ow2) (hl : gs.lookup mn = none) (hgg : g (.d (.ins C gs) :: rs) ow2 r ow3)
    (hst : starEach (e :: es) X.env = (false, eval e X.env) :: starEach es X.env := by rfl) (hpl : (backTo pos (starEach es X.env)).any (·.1) = false := by rfl)
    (ht : eval (.Call (.Attribute o mn apos) (e :: es) [] pos) X.env = (do
      let ov ← eval o X.env
      standAt apos.atName
      let (f, first) ← holding [ov] (getMethod ov mn pl)
      callWith pos f first (backTo pos (starEach (e :: es) X.env)) (backToKw pos (keywordEach [] X.env))) := by rfl) :
    PD X st ow (.Call (.Attribute o mn apos) (e :: es) [] pos) r ow3 := by
  obtain ⟨f, fd, h1, h2, h3⟩ := F
  exact pd_meth ho c h2 h1 (hr.mono hj) h3 ha hl hgg hst hpl ht
theorem pd_pt (F : Pt X.prog X.w X.K X.mg X.base C mn k ps g) (he : PD X st ow e (.d (.ins C gs)) ow1) (c : Cls X.K C) (hr : Room j X.A) (hj : k + 1 ≤ j) (hgg : g [.d (.ins C gs)] ow1 r ow2) (hab : attributeBase e mn X.env (eval e X.env) = eval e X.env := by rfl) : PD X st ow (.Attribute e mn pos) r ow2 := by
  obtain ⟨pa, f, fd, h1, h2, h3⟩ := F
  exact pd_prop he c h2 h1 (hr.mono hj) h3 hgg hab
end
/-! ### signs of lots -/
def sgA (n : Int) (ns : List Int) (t : List Int) : Int := match lookT (tabD n ns) t with
  | some (.int s) => s
  | _ => 0
def LotOk (n : Int) (ns : List Int) (t : List Int) : Prop := lookT (tabD n ns) t = some (.int (sgA n ns t))
def signs4 (n : Int) (ns : List Int) : List Int → List Int
  | [i, j, k, m] => [sgA n ns [i, j, k], sgA n ns [i, j, m], sgA n ns [i, k, m], sgA n ns [j, k, m]]
  | _ => []
def FourOk (n : Int) (ns : List Int) (q : List Int) : Prop := ∃ i j k m, q = [i, j, k, m] ∧ LotOk n ns [i, j, k] ∧ LotOk n ns [i, j, m] ∧ LotOk n ns [i, k, m] ∧ LotOk n ns [j, k, m]
def badQ (n : Int) (ns : List Int) (q : List Int) : Bool := !goodL (signs4 n ns q)
def badF (n : Int) (ns : List Int) : Option (List Int) := (sub4 (rngZ n)).find? (badQ n ns)
def optD : Option (List Int) → D
  | some q => tupI q
  | none => .non
theorem nm1 : ¬ (("lot_sign" : Str) = "_table") := by decide +kernel
theorem nm2 : ¬ (("lot_sign" : Str) = "lines") := by decide +kernel
theorem nm3 : ¬ (("lot_sign" : Str) = "signs") := by decide +kernel
theorem nm4 : ¬ (("lot_sign" : Str) = "size") := by decide +kernel
section
variable {P : Program} {w : World} {K : PySem.W.Frag} {mg : Str → Option Value} {base : Heap} {f : Addr} {fd : FuncData} {k : Nat} {C : Addr}
abbrev sLot : Stmt := inClass (topS 34) 8
theorem scLot : FnScope ["self", "three"] ["self", "three"] (defScope sLot) := ⟨rfl, rfl, rfl, by decide +kernel, rfl, by decide +kernel, by decide +kernel⟩
def gLot (C : Addr) : GG := fun rs ow r ow' => ∃ (n : Int) (ns t : List Int), rs = [.d (chartD C n ns), .d (tupI t)] ∧ LotOk n ns t ∧ r = .d (.int (sgA n ns t)) ∧ ow' = ow
theorem ok_lot (F : Fun K "lot_sign" "Chart.lot_sign" sLot f fd) (T : ChTxt K C) : FnOk P w K mg base CX0 (k + 1) f fd ["self", "three"] (spF K (gLot C)) := by
  refine okF F scLot (fun rs ow r ow' h => ?_) (fun cdv A outer s H E hr rs ow r ow' h => ?_)
  · obtain ⟨n, ns, t, rfl, _⟩ := h
    rfl
  · obtain ⟨n, ns, t, rfl, hl, rfl, rfl⟩ := h
    exact pbd_last (psd_ret (pd_getT (Nat.lt_of_le_of_lt (Nat.add_le_add_left (by decide) _) hr.units) (pd_fld (pd_var 0) T.cl T.table (chF_table n ns)) (pd_var 1) hl))
abbrev sSigns4 : Stmt := topS 30
theorem scSigns4 : FnScope ["chart", "four", "i", "j", "k", "m", "three"] ["chart", "four"] (defScope sSigns4) := ⟨rfl, rfl, rfl, by decide +kernel, rfl, by decide +kernel, by decide +kernel⟩
def gSigns4 (C : Addr) : GG := fun rs ow r ow' => ∃ (n : Int) (ns q : List Int) (x : D), rs = [.d (chartD C n ns), .d x] ∧ tupL x = some (q.map D.int) ∧ FourOk n ns q ∧ r = .d (.tupN ((signs4 n ns q).map D.int)) ∧ ow' = ow
theorem ok_signs4 (F : Fun K "signs_of_four" "signs_of_four" sSigns4 f fd) (T : ChTxt K C) (M1 : Mt P w K mg base C "lot_sign" k ["self", "three"] (gLot C)) (mT : mg "tuple" = none) : FnOk P w K mg base CX0 (k + 1) f fd ["chart", "four"] (spF K (gSigns4 C)) := by
  refine okF F scSigns4 (fun rs ow r ow' h => ?_) (fun cdv A outer s H E hr rs ow r ow' h => ?_)
  · obtain ⟨n, ns, q, x, rfl, _⟩ := h
    rfl
  · obtain ⟨n, ns, q, x, rfl, hx, ⟨a, b, c, d, rfl, l1, l2, l3, l4⟩, rfl, rfl⟩ := h
    refine pbd_cons (psd_asgT (vs := [2, 3, 4, 5]) (pd_var 1) (pgd_tup rfl (pgsd_cons (pgd_name 2 scSigns4.nd) (pgsd_cons (pgd_name 3 scSigns4.nd) (pgsd_cons (pgd_name 4 scSigns4.nd) (pgsd_cons (pgd_name 5 scSigns4.nd) pgsd_nil)))) hx)) ?_
    refine pbd_last (psd_ret (pd_tupleLN (ds := (signs4 n ns [a, b, c, d]).map D.int) mT (padd_cons (pd_eqD (pd_lc (own := [("three", 6)]) [[a, b, c], [a, b, d], [a, c, d], [b, c, d]] tupI (fun t => [some (.d (chartD C n ns)), some (.d x), some (.d (.int a)), some (.d (.int b)), some (.d (.int c)), some (.d (.int d)), some (.d (tupI t))]) (fun _ => true) (fun t => .int (sgA n ns t))
      rfl scSigns4.nd (pid_tup (pd_tup (padd_cons (pd_tup (padd_cons (pd_var 2) (padd_cons (pd_var 3) (padd_cons (pd_var 4) padd_nil)))) (padd_cons (pd_tup (padd_cons (pd_var 2) (padd_cons (pd_var 3) (padd_cons (pd_var 5) padd_nil)))) (padd_cons (pd_tup (padd_cons (pd_var 2) (padd_cons (pd_var 4) (padd_cons (pd_var 5) padd_nil)))) (padd_cons (pd_tup (padd_cons (pd_var 3) (padd_cons (pd_var 4) (padd_cons (pd_var 5) padd_nil)))) padd_nil)))))) (blkOk_by (N := ["chart", "four", "i", "j", "k", "m", "three"]) (sc := defScope sSigns4) (by decide +kernel)) (by show 4 ≤ 40000; decide)
      (fun t ht _ H C' cl fp => pgd_name 6 scSigns4.nd) (fun t ht l _ H C' cl fp => ptsd_nil) (fun t ht _ l _ H C' cl fp => ?_)) rfl) padd_nil)))
    refine pd_mt M1 (pd_var 0) T.cl hr (Nat.le_refl _) (padd_cons (pd_var 6) padd_nil) (chF_no n ns nm1 nm2 nm3 nm4) ⟨n, ns, t, rfl, ?_, rfl, rfl⟩
    simp only [List.mem_cons, List.not_mem_nil, or_false] at ht
    rcases ht with rfl | rfl | rfl | rfl
    · exact l1
    · exact l2
    · exact l3
    · exact l4
abbrev sCheckChart : Stmt := topS 31
theorem scCheckChart : FnScope ["chart"] ["chart"] (defScope sCheckChart) := ⟨rfl, rfl, rfl, by decide +kernel, rfl, by decide +kernel, by decide +kernel⟩
def gCheckChart (C : Addr) : GG := fun rs ow r ow' => ∃ gs, rs = [.d (.ins C gs)] ∧ r = .d (.ins C gs) ∧ ow' = ow
theorem ok_checkChart (F : Fun K "check_chart" "check_chart" sCheckChart f fd) (oc : OwnC K C) (mI : mg "isinstance" = none) (mC : mg "Chart" = some (.ref C)) : FnOk P w K mg base CX0 (k + 1) f fd ["chart"] (spF K (gCheckChart C)) := by
  refine okF F scCheckChart (fun rs ow r ow' h => ?_) (fun cdv A outer s H E hr rs ow r ow' h => ?_)
  · obtain ⟨gs, rfl, _⟩ := h
    rfl
  · obtain ⟨gs, rfl, rfl, rfl⟩ := h
    exact pbd_skip (ptd_not (ptd_val (pd_isC mI mC oc (pd_var 0)))) rfl (pbd_last (psd_ret (pd_var 0)))
/-! ### bad, sound -/
abbrev sBad : Stmt := inClass (topS 34) 4
abbrev sSound : Stmt := inClass (topS 34) 5
theorem scBad : FnScope ["self", "four"] ["self"] (defScope sBad) := ⟨rfl, rfl, rfl, by decide +kernel, rfl, by decide +kernel, by decide +kernel⟩
theorem scSound : FnScope ["self"] ["self"] (defScope sSound) := ⟨rfl, rfl, rfl, by decide +kernel, rfl, by decide +kernel, by decide +kernel⟩
def gBad (C : Addr) : GG := fun rs ow r ow' => ∃ (n : Int) (ns : List Int), rs = [.d (chartD C n ns)] ∧ n ≤ 13 ∧ (∀ q ∈ sub4 (rngZ n), FourOk n ns q) ∧ r = .d (optD (badF n ns)) ∧ ow' = ow
theorem getD_ofL {l : List (List Int)} {i : Nat} {x : List Int} (h : l[i]? = some x) : l.getD i [] = x := by rw [List.getD_eq_getElem?_getD, h]; rfl
theorem s4len {n : Int} {ns q : List Int} (h : FourOk n ns q) : (signs4 n ns q).length = 4 := by
  obtain ⟨i, j, k, m, rfl, _⟩ := h
  rfl
theorem ok_bad (F : Fun K "bad" "Chart.bad" sBad f fd) (T : ChTxt K C) (C1 : Fg P w K mg base "fours_in" k ["names"] (gSub sub4)) (C2 : Fg P w K mg base "good_row" k ["row"] gGoodRow) (C3 : Fg P w K mg base "signs_of_four" k ["chart", "four"] (gSigns4 C)) : FnOk P w K mg base CX0 (k + 1) f fd ["self"] (spF K (gBad C)) := by
  refine okF F scBad (fun rs ow r ow' h => ?_) (fun cdv A outer s H E hr rs ow r ow' h => ?_)
  · obtain ⟨n, ns, rfl, _⟩ := h
    rfl
  · obtain ⟨n, ns, rfl, hn, hq, rfl, rfl⟩ := h
    refine pbd_find [1] [some (.d (chartD C n ns)), none] (sub4 (rngZ n)) tupI (badQ n ns) (fun q => .d (tupI q)) (fun q => [some (.d (chartD C n ns)), some (.d (tupI q))]) PassesOwn.never rfl
      (pid_eq (pid_list (pd_cg C1 hr (Nat.le_refl _) (padd_cons (pd_fld (pd_var 0) T.cl T.lines (chF_lines n ns)) padd_nil) ⟨true, (rngZ n).map D.int, rfl, by rw [List.length_map, rngZ_len]; omega, rfl, rfl⟩)) (by rw [sub4_map, List.map_map]; rfl)) ⟨rfl, fun i r h => h⟩ (fun q hm => pgd_name 1 scBad.nd)
      (fun q hm hb => pbd_weak (pbd_skip (ptd_not (ptd_val (pd_cg C2 hr (Nat.le_refl _) (padd_cons (pd_cg C3 hr (Nat.le_refl _) (padd_cons (pd_var 0) (padd_cons (pd_var 1) padd_nil)) ⟨n, ns, q, tupI q, rfl, rfl, hq q hm, rfl, rfl⟩) padd_nil) ⟨signs4 n ns q, rfl, s4len (hq q hm), rfl, rfl⟩))) hb pbd_nil) rfl (by (intro i r h; rcases i with _ | _ | _ | _ | _ | _ | _ | _ | _ | i <;> first | exact h | cases h)))
      (fun q hm hb => pbd_take (ptd_not (ptd_val (pd_cg C2 hr (Nat.le_refl _) (padd_cons (pd_cg C3 hr (Nat.le_refl _) (padd_cons (pd_var 0) (padd_cons (pd_var 1) padd_nil)) ⟨n, ns, q, tupI q, rfl, rfl, hq q hm, rfl, rfl⟩) padd_nil) ⟨signs4 n ns q, rfl, s4len (hq q hm), rfl, rfl⟩))) hb (pbd_last (psd_ret (pd_var 1))))
      (fun he => ?_) (fun q he => ?_)
    · have e : badF n ns = none := he
      rw [e]
      exact pbd_last (psd_ret pd_non)
    · have e : badF n ns = some q := he
      rw [e]
      rfl
def gSound (C : Addr) : GG := fun rs ow r ow' => ∃ (n : Int) (ns : List Int), rs = [.d (chartD C n ns)] ∧ n ≤ 13 ∧ (∀ q ∈ sub4 (rngZ n), FourOk n ns q) ∧ r = .d (.bl (nonD (optD (badF n ns)))) ∧ ow' = ow
theorem ok_sound (F : Fun K "sound" "Chart.sound" sSound f fd) (T : ChTxt K C) (P1 : Pt P w K mg base C "bad" k ["self"] (gBad C)) : FnOk P w K mg base CX0 (k + 2) f fd ["self"] (spF K (gSound C)) := by
  refine okF F scSound (fun rs ow r ow' h => ?_) (fun cdv A outer s H E hr rs ow r ow' h => ?_)
  · obtain ⟨n, ns, rfl, _⟩ := h
    rfl
  · obtain ⟨n, ns, rfl, hn, hq, rfl, rfl⟩ := h
    exact pbd_last (psd_ret (pd_isN (pd_pt P1 (pd_var 0) T.cl hr (Nat.le_refl _) ⟨n, ns, rfl, hn, hq, rfl, rfl⟩) pd_non))
/-! ### lots of lines -/
abbrev sLotFrom : Stmt := topS 24
abbrev sLotMany : Stmt := topS 23
theorem scLotFrom : FnScope ["value", "size", "at", "line"] ["value", "size"] (defScope sLotFrom) := ⟨rfl, rfl, rfl, by decide +kernel, rfl, by decide +kernel, by decide +kernel⟩
theorem scLotMany : FnScope ["value", "size", "many", "word"] ["value", "size", "many", "word"] (defScope sLotMany) := ⟨rfl, rfl, rfl, by decide +kernel, rfl, by decide +kernel, by decide +kernel⟩
def LotIn (m : Int) (qs : List Int) : Prop := qs.Nodup ∧ (∀ q ∈ qs, 0 ≤ q ∧ q < m) ∧ qs.length < 64
def gLotFrom : GG := fun rs ow r ow' => ∃ (m : Int) (qs : List Int), rs = [.d (.lst (qs.map D.int)), .d (.int m)] ∧ LotIn m qs ∧ r = .d (tupI (isort qs)) ∧ ow' = ow
theorem nodup_take {qs : List Int} (h : qs.Nodup) {i : Nat} {q : Int} (hi : qs[i]? = some q) : q ∉ qs.take i := fun hm => by
  obtain ⟨j, hj, e⟩ := List.mem_iff_getElem.mp hm
  rw [List.length_take] at hj
  rw [List.getElem_take] at e
  obtain ⟨hl, e2⟩ := List.getElem?_eq_some_iff.mp hi
  have := (List.getElem_inj h).mp (e.trans e2.symm)
  omega
theorem ok_lotFrom (F : Fun K "lot_from_lines" "lot_from_lines" sLotFrom f fd) (C1 : Fg P w K mg base "check_line" k ["line", "size"] gCheckLine) (mE : mg "enumerate" = none) (mT : mg "tuple" = none) (mS : mg "sorted" = none) : FnOk P w K mg base CX0 (k + 1) f fd ["value", "size"] (spF K gLotFrom) := by
  refine okF F scLotFrom (fun rs ow r ow' h => ?_) (fun cdv A outer s H E hr rs ow r ow' h => ?_)
  · obtain ⟨n, ns, rfl, _⟩ := h
    rfl
  · obtain ⟨m, qs, rfl, ⟨h1, h2, h3⟩, rfl, rfl⟩ := h
    refine pbd_cons (psd_forG [2, 3] (fun _ => [some (.d (.lst (qs.map D.int))), some (.d (.int m)), none, none]) (fun _ => ow') none (fun i => [some (.d (.lst (qs.map D.int))), some (.d (.int m)), some (.d (.int (i : Nat))), some (.d ((qs.map D.int).getD i .non))]) (fun i => .nx [some (.d (.lst (qs.map D.int))), some (.d (.int m)), none, none] ow') PassesOwn.never rfl (pid_enumL mE (padd_cons (pd_var 0) padd_nil)) ⟨rfl, fun i r h => h⟩ rfl (fun i d hd _ => ?_) (fun i d hd _ => ?_) (fun i hi _ => .inl rfl) rfl) ?_
    · obtain ⟨x, hx, rfl⟩ := enumD_some hd
      rw [getD_of hx]
      exact pgd_tup rfl (pgsd_cons (pgd_name 2 scLotFrom.nd) (pgsd_cons (pgd_name 3 scLotFrom.nd) pgsd_nil))
    · obtain ⟨x, hx, rfl⟩ := enumD_some hd
      rw [getD_of hx]
      obtain ⟨q, hq, rfl⟩ := map_some_of hx
      obtain ⟨g1, g2⟩ := h2 q (List.mem_of_getElem? hq)
      refine pbd_weak (pbd_cons (psd_expr (pd_cg C1 hr (Nat.le_refl _) (padd_cons (pd_var 3) (padd_cons (pd_var 1) padd_nil)) ⟨q, m, rfl, g1, g2, rfl, rfl⟩)) (pbd_skip (ptd_in (ns := qs.take i) (pd_var 3) (pd_slL (pd_var 0) pod_none (pod_some (pd_var 2))) ?_) (decide_eq_false (nodup_take h1 hq)) pbd_nil)) rfl (by (intro i r h; rcases i with _ | _ | _ | _ | _ | _ | _ | _ | _ | i <;> first | exact h | cases h))
      rw [cut_take, ← List.map_take]
      rfl
    · exact pbd_last (psd_ret (pd_tupleL mT (padd_cons (pd_sorted mS (padd_cons (pd_var 0) padd_nil) h3) padd_nil)))
def gLotMany : GG := fun rs ow r ow' => ∃ (m : Int) (qs : List Int) (x : Str), rs = [.d (.lst (qs.map D.int)), .d (.int m), .d (.int (qs.length : Nat)), .d (.str x)] ∧ LotIn m qs ∧ 1 ≤ m ∧ m ≤ 16 ∧ r = .d (tupI (isort qs)) ∧ ow' = ow
theorem ok_lotMany (F : Fun K "lot_of_many" "lot_of_many" sLotMany f fd) (C1 : Fg P w K mg base "check_size" k ["size"] gCheckSize) (C2 : Fg P w K mg base "lot_from_lines" k ["value", "size"] gLotFrom) (mI : mg "isinstance" = none) (mL : mg "list" = none) (mT : mg "tuple" = none) (mN : mg "len" = none) : FnOk P w K mg base CX0 (k + 1) f fd ["value", "size", "many", "word"] (spF K gLotMany) := by
  refine okF F scLotMany (fun rs ow r ow' h => ?_) (fun cdv A outer s H E hr rs ow r ow' h => ?_)
  · obtain ⟨n, ns, x, rfl, _⟩ := h
    rfl
  · obtain ⟨m, qs, x, rfl, hl, h1, h2, rfl, rfl⟩ := h
    refine pbd_cons (psd_expr (pd_cg C1 hr (Nat.le_refl _) (padd_cons (pd_var 1) padd_nil) ⟨m, rfl, h1, h2, rfl, rfl⟩)) ?_
    refine pbd_skip (ptd_bool (pwd_or (ptd_not (ptd_val (pd_isT2 (n := "list") (m := "tuple") (t := "list") mI (padd_cons (pd_var 0) (padd_cons (pd_tup (padd_cons (pd_ty mL) (padd_cons (pd_ty mT) padd_nil))) padd_nil)) true false))) (fun _ => pwd_or1 (ptd_ne (pd_lenL mN (padd_cons (pd_var 0) padd_nil)) (pd_var 2))))) (by simp) ?_
    exact pbd_last (psd_ret (pd_cg C2 hr (Nat.le_refl _) (padd_cons (pd_var 0) (padd_cons (pd_var 1) padd_nil)) ⟨m, qs, rfl, hl, rfl, rfl⟩))
def gFourOf : GG := fun rs ow r ow' => ∃ (m : Int) (qs : List Int), rs = [.d (.lst (qs.map D.int)), .d (.int m)] ∧ LotIn m qs ∧ qs.length = 4 ∧ 1 ≤ m ∧ m ≤ 16 ∧ r = .d (tupI (isort qs)) ∧ ow' = ow
end
end Bl
set_option Elab.async false
set_option linter.all false
set_option maxRecDepth 100000
set_option maxHeartbeats 4000000
namespace Bl
open PySem PySem.Spec PyProof.Rows L2
/-! ### rules -/
def sqN : Bool → List D → D
  | true, l => .tupN l
  | false, l => .lst l
def metZ (n : Int) (ns : List Int) (l a b : Int) : Int := if a < b then sgA n ns (isort [l, a, b]) else -sgA n ns (isort [l, a, b])
def wayZ (n : Int) (ns : List Int) (l a b c : Int) : List Int := [metZ n ns l a b, metZ n ns l b c, metZ n ns l c a]
def ringZ (n : Int) (ns : List Int) (l a b c : Int) : Option (List Int) :=
  if 1 ∈ wayZ n ns l a b c ∧ -1 ∉ wayZ n ns l a b c then some [a, b, c] else if -1 ∈ wayZ n ns l a b c ∧ 1 ∉ wayZ n ns l a b c then some [a, c, b] else none
def ringQ (n : Int) (ns : List Int) (l : Int) : List Int → Option (List Int)
  | [a, b, c] => ringZ n ns l a b c
  | _ => none
def othersZ (n l : Int) : List Int := (rngZ n).filter fun x => !decide (V.int x = V.int l)
def ringF (n : Int) (ns : List Int) (l : Int) : Option (List Int) := ((sub3 (othersZ n l)).find? fun q => (ringQ n ns l q).isSome).bind (ringQ n ns l)
def MetOk (n : Int) (ns : List Int) (l a b : Int) : Prop := LotOk n ns (isort [l, a, b])
def ThreeOk (n : Int) (ns : List Int) (l : Int) (q : List Int) : Prop := ∃ a b c, q = [a, b, c] ∧ MetOk n ns l a b ∧ MetOk n ns l b c ∧ MetOk n ns l c a
theorem nonD_opt (q : Option (List Int)) : nonD (optD q) = !q.isSome := by cases q <;> rfl
section
variable {P : Program} {w : World} {K : PySem.W.Frag} {mg : Str → Option Value} {base : Heap} {f : Addr} {fd : FuncData} {k : Nat} {C : Addr}
def gRowOf (C : Addr) : GG := fun rs ow r ow' => ∃ (n : Int) (ns qs : List Int), rs = [.d (chartD C n ns), .d (.lst (qs.map D.int))] ∧ LotIn n qs ∧ qs.length = 4 ∧ 1 ≤ n ∧ n ≤ 16 ∧ FourOk n ns (isort qs) ∧ r = .d (.tupN ((signs4 n ns (isort qs)).map D.int)) ∧ ow' = ow
def gIsGood : GG := fun rs ow r ow' => ∃ (t : Bool) (ns : List Int), rs = [.d (sqN t (ns.map D.int))] ∧ ns.length = 4 ∧ (∀ n ∈ ns, -1 ≤ n ∧ n ≤ 1) ∧ r = .d (.bl (goodL ns)) ∧ ow' = ow
def gMet (C : Addr) : GG := fun rs ow r ow' => ∃ (n : Int) (ns : List Int) (l a b : Int), rs = [.d (chartD C n ns), .d (.int l), .d (.int a), .d (.int b)] ∧ MetOk n ns l a b ∧ r = .d (.int (metZ n ns l a b)) ∧ ow' = ow
def gRingOf (C : Addr) : GG := fun rs ow r ow' => ∃ (n : Int) (ns : List Int) (l : Int) (q : List Int), rs = [.d (chartD C n ns), .d (.int l), .d (tupI q)] ∧ ThreeOk n ns l q ∧ r = .d (optD (ringQ n ns l q)) ∧ ow' = ow
def gRing (C : Addr) : GG := fun rs ow r ow' => ∃ (n : Int) (ns : List Int) (l : Int), rs = [.d (chartD C n ns), .d (.int l)] ∧ n ≤ 13 ∧ 0 ≤ l ∧ l < n ∧ (∀ q ∈ sub3 (othersZ n l), ThreeOk n ns l q) ∧ r = .d (optD (ringF n ns l)) ∧ ow' = ow
end
end Bl
set_option Elab.async false
set_option linter.all false
set_option maxRecDepth 100000
set_option maxHeartbeats 4000000
namespace Bl
open PySem PySem.Spec PyProof.Rows L2
section
variable {X : Cx} {e : Expr} {es : List Expr} {ss : List Stmt} {st st1 : Sta} {ow ow1 : List OB} {d : D} {ds l : List D} {pos : Pos}
/-- a function's mutable list, returned, is data for its caller -/
theorem pbd_frzR (h : PBD X st ow ss (.ret (.own ow1.length) (ow1 ++ [.l l]))) (hl : ow.length = ow1.length) (hb : KeepG ow ow1 := by first | exact ⟨fun _ h => h, fun _ h => h⟩ | (refine ⟨?_, ?_⟩ <;> (intro gs h; simp at h ⊢; assumption))) : PBD X st ow ss (.ret (.d (.lst l)) ow1) :=
  h.imp fun E σ H ⟨S, sl, o, k⟩ => ⟨S, sl, o, fun S1 v H1 f1 o1 d1 => by
    obtain ⟨g1, g2, g3⟩ := owns_drop f1 o o1 hl hb d1
    exact k S v H1 g1 g2 (.d g3)⟩
theorem pbd_frzRT {gs : List (List Key × D)} (h : PBD X st ow ss (.ret (.own ow1.length) (ow1 ++ [.t gs]))) (hl : ow.length = ow1.length) (hb : KeepG ow ow1 := by first | exact ⟨fun _ h => h, fun _ h => h⟩ | (refine ⟨?_, ?_⟩ <;> (intro gs h; simp at h ⊢; assumption))) : PBD X st ow ss (.ret (.d (.dT gs)) ow1) :=
  h.imp fun E σ H ⟨S, sl, o, k⟩ => ⟨S, sl, o, fun S1 v H1 f1 o1 d1 => by
    obtain ⟨g1, g2, g3⟩ := owns_dropT f1 o o1 hl hb d1
    exact k S v H1 g1 g2 (.d g3)⟩
theorem pgd_lst {vs : List Nat} {k : Nat} {es : List Expr} (hc : X.calm = true) (h : PGsD X vs st ds es st1) (hn : (assignEach es X.env).length = ds.length := by rfl) (hst : (assignEach es X.env).findIdx? (·.1) = none := by rfl) : PGD X vs st (.lst ds) (.Tuple es k pos) st1 :=
  (pg_unl hc h hn hst).imp fun v σ H Q ⟨S, sl, dd, k⟩ => by
    obtain ⟨a, xs, rfl, h1, h2⟩ := dd.of_lst
    exact ⟨a, xs, rfl, h1.sq, Dens.length h2, S, sl, h2, k⟩
theorem set_same {ow : List OB} {k : Nat} {b : OB} (h : ow[k]? = some b) : ow.set k b = ow := by
  apply List.ext_getElem?
  intro i
  rw [List.getElem?_set]
  split
  · rename_i e
    subst e
    split
    · exact h.symm
    · rename_i hn
      exact (List.getElem?_eq_none (by omega)).symm
  · rfl
end
end Bl
set_option Elab.async false
set_option linter.all false
set_option maxRecDepth 100000
set_option maxHeartbeats 4000000
namespace Bl
open PySem PySem.Spec PyProof.Rows L2
/-! ### the law's own defs -/
def nextV (ps : List Int) (m : Int) : Int := match ps.getLast? with
  | none => 0
  | some x => x % m
def numI (n : Int) : Nat → Int
  | 0 => n
  | i + 1 => numI n i / 3
def rowP (n : Int) : Nat → List Int
  | 0 => []
  | i + 1 => rowP n i ++ [numI n i % 3 - 1]
def rowZ (n : Int) : List Int := rowP n 4
theorem rowP_len (n : Int) : ∀ i, (rowP n i).length = i
  | 0 => rfl
  | i + 1 => by unfold rowP; rw [List.length_append, rowP_len n i]; rfl
def gI (ns : List Int) (i : Int) : Int := (atI ns i).getD 0
def lmetZ (ns : List Int) (x y z : Int) : Int := if y < z then gI ns (x + y + z - 3) else -gI ns (x + y + z - 3)
def AtOk (ns : List Int) (i : Int) : Prop := (atI ns i).isSome = true
theorem at_map {ns : List Int} {i : Int} (h : AtOk ns i) : atI (ns.map D.int) i = some (.int (gI ns i)) := by
  unfold AtOk at h
  unfold gI
  have e : atI (ns.map D.int) i = (atI ns i).map D.int := by
    unfold atI
    rw [List.length_map]
    cases ixN ns.length i with
    | none => rfl
    | some j => show (ns.map D.int)[j]? = (ns[j]?).map D.int; rw [List.getElem?_map]
  rw [e]
  cases h2 : atI ns i with
  | none => rw [h2] at h; cases h
  | some v => rfl
section
variable {P : Program} {w : World} {K : PySem.W.Frag} {mg : Str → Option Value} {base : Heap} {f : Addr} {fd : FuncData} {k : Nat} {C : Addr}
abbrev sNext : Stmt := topS 37
theorem scNext : FnScope ["_law_pool_here", "_law_many"] ["_law_pool_here", "_law_many"] (defScope sNext) := ⟨rfl, rfl, rfl, by decide +kernel, rfl, by decide +kernel, by decide +kernel⟩
def gNext : GG := fun rs ow r ow' => ∃ (k : Nat) (m : Int) (ps : List Int), rs = [.own k, .d (.int m)] ∧ ow[k]? = some (.l (ps.map D.int)) ∧ 0 < m ∧ r = .d (.int (nextV ps m)) ∧ ow' = ow.set k (.l (ps.dropLast.map D.int))
theorem ok_next (F : Fun K "_law_next" "_law_next" sNext f fd) (mN : mg "len" = none) (mI : mg "int" = none) : FnOk P w K mg base CX0 (k + 1) f fd ["_law_pool_here", "_law_many"] (spF K gNext) := by
  refine okF F scNext (fun rs ow r ow' h => ?_) (fun cdv A outer s H E hr rs ow r ow' h => ?_)
  · obtain ⟨k, m, ps, rfl, _⟩ := h
    rfl
  · obtain ⟨k, m, ps, rfl, hk, hm, rfl, rfl⟩ := h
    cases hp : ps.getLast? with
    | none =>
      have e : ps = [] := List.getLast?_eq_none_iff.mp hp
      subst e
      refine pbd_take (ptd_eq (pd_lenO mN (pd_var 0) hk) pd_int) rfl ?_
      have e2 : ow.set k (.l ((([] : List Int).dropLast).map D.int)) = ow := set_same hk
      rw [e2]
      exact pbd_last (psd_ret pd_int)
    | some x =>
      obtain ⟨qs, rfl⟩ : ∃ qs, ps = qs ++ [x] := List.getLast?_eq_some_iff.mp hp
      refine pbd_skip (ptd_eq (pd_lenO mN (pd_var 0) hk) pd_int) (by rw [iv_eq, List.length_map, List.length_append]; exact decide_eq_false (by simp only [List.length_cons, List.length_nil]; omega)) ?_
      have ev : nextV (qs ++ [x]) m = x % m := by unfold nextV; rw [hp]
      rw [ev, List.dropLast_concat]
      exact pbd_last (psd_ret (pd_mod (pd_int1 mI (padd_cons (pd_pop (pd_var 0) (by rw [hk, List.map_append]; rfl)) padd_nil)) (pd_var 1) hm))
def gLRow : GG := fun rs ow r ow' => ∃ n : Int, rs = [.d (.int n)] ∧ r = .d (.lst ((rowZ n).map D.int)) ∧ ow' = ow
theorem pd_ow {X : Cx} {st : Sta} {ow owA owB : List OB} {e : Expr} {r : R} (h : PD X st ow e r owA) (he : owA = owB) : PD X st ow e r owB := he ▸ h
theorem app_get {ow : List OB} {l : List D} : (ow ++ [.l l])[ow.length]? = some (.l l) := by rw [List.getElem?_append_right (Nat.le_refl _), Nat.sub_self]; rfl
end
end Bl
set_option Elab.async false
set_option linter.all false
set_option maxRecDepth 100000
set_option maxHeartbeats 4000000
namespace Bl
open PySem PySem.Spec PyProof.Rows L2
def inBad (x a : Int) : Bool := decide (a < 0) || (decide (3 < a) || decide (V.int a = V.int x))
def ltw (ns : List Int) (x a b c : Int) : List Int := [lmetZ ns x a b, lmetZ ns x b c, lmetZ ns x c a]
def mk3 (ns : List Int) (x a b c : Int) : Bool := if [a, b, c].any (inBad x) = true then false else if a = b ∨ b = c ∨ a = c then false else decide (0 ≤ lmin (ltw ns x a b c)) && decide (0 < lmax (ltw ns x a b c))
def mkR (ns : List Int) (x : Int) : Option (List Int) → Bool
  | some [a, b, c] => mk3 ns x a b c
  | _ => false
def hasR (ns : List Int) (x : Int) : Bool := match othersZ 4 x with
  | [a, b, c] => mk3 ns x a b c || mk3 ns x a c b
  | _ => false
theorem atok {ns : List Int} (h : ns.length = 4) {i : Int} (h0 : 0 ≤ i) (h1 : i ≤ 3) : AtOk ns i := by
  unfold AtOk atI ixN
  rw [if_pos h0, if_pos (by omega)]
  show (ns[i.toNat]?).isSome = true
  rw [List.getElem?_eq_getElem (by omega)]
  rfl
theorem others4 {x : Int} (h0 : 0 ≤ x) (h3 : x ≤ 3) : ∃ a b c, othersZ 4 x = [a, b, c] := by
  have : x = 0 ∨ x = 1 ∨ x = 2 ∨ x = 3 := by omega
  rcases this with rfl | rfl | rfl | rfl
  · exact ⟨1, 2, 3, by decide +kernel⟩
  · exact ⟨0, 2, 3, by decide +kernel⟩
  · exact ⟨0, 1, 3, by decide +kernel⟩
  · exact ⟨0, 1, 2, by decide +kernel⟩
section
variable {P : Program} {w : World} {K : PySem.W.Frag} {mg : Str → Option Value} {base : Heap} {f : Addr} {fd : FuncData} {k : Nat} {C : Addr}
def gLMet : GG := fun rs ow r ow' => ∃ (ns : List Int) (x y z : Int), rs = [.d (.lst (ns.map D.int)), .d (.int x), .d (.int y), .d (.int z)] ∧ AtOk ns (x + y + z - 3) ∧ r = .d (.int (lmetZ ns x y z)) ∧ ow' = ow
def gLMk : GG := fun rs ow r ow' => ∃ (ns : List Int) (x : Int) (t : Option (List Int)), rs = [.d (.lst (ns.map D.int)), .d (.int x), .d (optD t)] ∧ ns.length = 4 ∧ 0 ≤ x ∧ x ≤ 3 ∧ (t = none ∨ ∃ a b c, t = some [a, b, c]) ∧ r = .d (.bl (mkR ns x t)) ∧ ow' = ow
def gLHas : GG := fun rs ow r ow' => ∃ (ns : List Int) (x : Int), rs = [.d (.lst (ns.map D.int)), .d (.int x)] ∧ ns.length = 4 ∧ 0 ≤ x ∧ x ≤ 3 ∧ r = .d (.bl (hasR ns x)) ∧ ow' = ow
end
end Bl
set_option Elab.async false
set_option linter.all false
set_option maxRecDepth 100000
set_option maxHeartbeats 4000000
namespace Bl
open PySem PySem.Spec PyProof.Rows L2
/-! ### the pool of drawn numbers -/
def bigC (c : Int) : Nat → Int
  | 0 => c
  | i + 1 => if 0 < bigC c i then bigC c i / 30 else bigC c i
def bigA (c : Int) : Nat → List Int
  | 0 => []
  | i + 1 => if 0 < bigC c i then bigA c i ++ [bigC c i % 30] else bigA c i
def smN (c at_ : Int) : Nat → Int
  | 0 => (c * 30011 + at_ * 4513 + 77) % 1000003
  | i + 1 => (smN c at_ i * smN c at_ i + (0 + (i : Int)) * 911 + at_ + 3) % 999983
def smA (c at_ : Int) : Nat → List Int
  | 0 => []
  | i + 1 => smA c at_ i ++ [smN c at_ (i + 1) / 7]
def posC (c : Int) : Int := if c < 0 then 2 - c else c
def cellA (at_ c : Int) : List Int := if (10 : Int) ^ (18 : Int).toNat ≤ posC c then bigA (posC c) 48 else smA (posC c) at_ 5
def poolP (ss : List Int) : Nat → List Int
  | 0 => []
  | i + 1 => poolP ss i ++ cellA (0 + (i : Int)) (ss.getD i 0)
def poolZ (ss : List Int) : List Int := (poolP ss (min ss.length 63)).reverse
theorem bigA_len (c : Int) : ∀ i, (bigA c i).length ≤ i
  | 0 => Nat.le_refl _
  | i + 1 => by
    have := bigA_len c i
    unfold bigA
    split
    · rw [List.length_append]; simp only [List.length_cons, List.length_nil]; omega
    · omega
theorem smA_len (c a : Int) : ∀ i, (smA c a i).length = i
  | 0 => rfl
  | i + 1 => by unfold smA; rw [List.length_append, smA_len c a i]; rfl
theorem cellA_len (a c : Int) : (cellA a c).length ≤ 48 := by
  unfold cellA
  split
  · exact bigA_len _ 48
  · rw [smA_len]; decide
theorem poolP_len (ss : List Int) : ∀ i, (poolP ss i).length ≤ 48 * i
  | 0 => Nat.le_refl _
  | i + 1 => by
    have := poolP_len ss i
    have h2 := cellA_len (0 + (i : Int)) (ss.getD i 0)
    unfold poolP
    rw [List.length_append]
    omega
theorem smN_rng (c a : Int) : ∀ i, 0 ≤ smN c a i ∧ smN c a i < 1000003
  | 0 => ⟨Int.emod_nonneg _ (by decide), Int.emod_lt_of_pos _ (by decide)⟩
  | i + 1 => ⟨Int.emod_nonneg _ (by decide), Int.lt_trans (Int.emod_lt_of_pos _ (by decide)) (by decide)⟩
theorem rng_at {n i : Nat} {d : D} (h : (rngD 0 n)[i]? = some d) : d = .int (0 + (i : Int)) ∧ i < n := by
  obtain ⟨j, hj, rfl⟩ := map_some_of h
  have h1 := List.getElem?_eq_some_iff.mp hj
  have h2 := h1.1
  rw [List.length_range] at h2
  have h3 := h1.2
  rw [List.getElem_range] at h3
  exact ⟨by rw [h3], h2⟩
theorem set_int (ow : List OB) (a b : List Int) (l : List D) (h : l = (a ++ b).map D.int) : (ow ++ [.l l]) = ow ++ [.l ((a ++ b).map D.int)] := by rw [h]
section
variable {P : Program} {w : World} {K : PySem.W.Frag} {mg : Str → Option Value} {base : Heap} {f : Addr} {fd : FuncData} {k : Nat} {C : Addr}
abbrev sPool : Stmt := topS 36
theorem scPool : FnScope ["_law_script", "_law_pool_here", "_law_at", "_law_cell", "_law_turn", "_law_number"] ["_law_script"] (defScope sPool) := ⟨rfl, rfl, rfl, by decide +kernel, rfl, by decide +kernel, by decide +kernel⟩
def gPool : GG := fun rs ow r ow' => ∃ ss : List Int, rs = [.d (.lst (ss.map D.int))] ∧ ss.length ≤ 63 ∧ r = .own ow.length ∧ ow' = ow ++ [.l ((poolZ ss).map D.int)]
abbrev pSt (ss : List Int) (k : Nat) (a b c d : Option R) : Sta := [some (.d (.lst (ss.map D.int))), some (.own k), a, b, c, d]
theorem ok_pool (F : Fun K "_law_pool" "_law_pool" sPool f fd) (mR : mg "range" = none) (mN : mg "len" = none) (mM : mg "min" = none) (mI : mg "int" = none) : FnOk P w K mg base CX0 (k + 1) f fd ["_law_script"] (spF K gPool) := by
  refine okF F scPool (fun rs ow r ow' h => ?_) (fun cdv A outer s H E hr rs ow r ow' h => ?_)
  · obtain ⟨n, rfl, _⟩ := h
    rfl
  · obtain ⟨ss, rfl, hl, rfl, rfl⟩ := h
    refine pbd_cons (psd_set 1 scPool.nd (pd_lstO padd_nil)) ?_
    refine pbd_cons (psd_forG [2] (fun _ => pSt ss ow.length none none none none) (fun i => ow ++ [.l ((poolP ss i).map D.int)]) none (fun i => pSt ss ow.length (some (.d (.int (0 + (i : Int))))) none none none) (fun i => .nx (pSt ss ow.length none none none none) (ow ++ [.l ((poolP ss (i + 1)).map D.int)])) (xs := rngD 0 (min ss.length 63)) PassesOwn.never rfl
      (pid_eq (pid_range1 mR (padd_cons (pd_min2 rfl mM (padd_cons (pd_lenL mN (padd_cons (pd_var 0) padd_nil)) (padd_cons pd_int padd_nil))) padd_nil) ?_) ?_) ⟨rfl, fun i r h => h⟩ rfl (fun i d hd _ => ?_) (fun i d hd _ => ?_) (fun i hi _ => .inl rfl) rfl) ?_
    · rw [List.length_map]
      split <;> omega
    · rw [List.length_map]
      congr 1
      split <;> omega
    · obtain ⟨rfl, hi⟩ := rng_at hd
      exact pgd_name 2 scPool.nd
    · obtain ⟨rfl, hi⟩ := rng_at hd
      have hil : i < ss.length := by omega
      have hpl := poolP_len ss i
      have hat : atI (ss.map D.int) (0 + (i : Int)) = some (.int (ss.getD i 0)) := by
        unfold atI ixN
        rw [List.length_map, if_pos (by omega), if_pos (by omega)]
        show (ss.map D.int)[(0 + (i : Int)).toNat]? = _
        rw [show (0 + (i : Int)).toNat = i by omega, List.getElem?_map, List.getElem?_eq_getElem hil, List.getD_eq_getElem?_getD, List.getElem?_eq_getElem hil]
        rfl
      refine pbd_cons (psd_set 3 scPool.nd (pd_int1 mI (padd_cons (pd_ixL (pd_var 0) (pd_var 2) hat) padd_nil))) ?_
      refine pbd_cons (psd_if (out := .nx (pSt ss ow.length (some (.d (.int (0 + (i : Int))))) (some (.d (.int (posC (ss.getD i 0))))) none none) (ow ++ [.l ((poolP ss i).map D.int)])) (ptd_lt (pd_var 3) pd_int) (fun hb => ?_) (fun hb => ?_)) ?_
      · unfold posC
        rw [if_pos (of_decide_eq_true hb)]
        exact pbd_cons (psd_set 3 scPool.nd (pd_sub pd_int (pd_var 3))) pbd_nil
      · unfold posC
        rw [if_neg (of_decide_eq_false hb)]
        exact pbd_nil
      have eP : poolP ss (i + 1) = poolP ss i ++ cellA (0 + (i : Int)) (ss.getD i 0) := rfl
      rw [eP]
      unfold cellA
      refine pbd_cons (psd_if (out := .nx _ _) (ptd_ge (pd_var 3) (pd_pow pd_int pd_int ⟨by decide, by decide, by decide⟩)) (fun hb => ?_) (fun hb => ?_)) pbd_nil
      · rw [if_pos (of_decide_eq_true hb)]
        generalize posC (ss.getD i 0) = c
        refine pbd_weak (st1 := pSt ss ow.length (some (.d (.int (0 + (i : Int))))) (some (.d (.int (bigC c 48)))) none none) (pbd_cons (psd_forG [4] (fun j => pSt ss ow.length (some (.d (.int (0 + (i : Int))))) (some (.d (.int (bigC c j)))) none none) (fun j => ow ++ [.l ((poolP ss i ++ bigA c j).map D.int)]) none (fun j => pSt ss ow.length (some (.d (.int (0 + (i : Int))))) (some (.d (.int (bigC c j)))) (some (.d (.int (0 + (j : Int))))) none) (fun j => .nx (pSt ss ow.length (some (.d (.int (0 + (i : Int))))) (some (.d (.int (bigC c (j + 1))))) none none) (ow ++ [.l ((poolP ss i ++ bigA c (j + 1)).map D.int)])) (xs := rngD 0 48) PassesOwn.never rfl
          (pid_range1 mR (padd_cons pd_int padd_nil) (by decide)) ⟨rfl, by (intro i r h; rcases i with _ | _ | _ | _ | _ | _ | _ | _ | _ | i <;> first | exact h | cases h)⟩ (by show ow ++ [.l ((poolP ss i ++ []).map D.int)] = _; rw [List.append_nil]) (fun j d hd _ => ?_) (fun j d hd _ => ?_) (fun j hj _ => .inl rfl) rfl) pbd_nil) rfl (by (intro i r h; rcases i with _ | _ | _ | _ | _ | _ | _ | _ | _ | i <;> first | exact h | cases h))
        · obtain ⟨rfl, hj⟩ := rng_at hd
          exact pgd_name 4 scPool.nd
        · obtain ⟨rfl, hj⟩ := rng_at hd
          have hbl := bigA_len c j
          refine pbd_weak (st1 := pSt ss ow.length (some (.d (.int (0 + (i : Int))))) (some (.d (.int (bigC c (j + 1))))) (some (.d (.int (0 + (j : Int))))) none) (pbd_cons (psd_if (ptd_gt (pd_var 3) pd_int) (fun hb2 => ?_) (fun hb2 => ?_)) pbd_nil) rfl (by (intro i r h; rcases i with _ | _ | _ | _ | _ | _ | _ | _ | _ | i <;> first | exact h | cases h))
          · have hp : 0 < bigC c j := of_decide_eq_true hb2
            rw [show bigC c (j + 1) = if 0 < bigC c j then bigC c j / 30 else bigC c j from rfl, show bigA c (j + 1) = if 0 < bigC c j then bigA c j ++ [bigC c j % 30] else bigA c j from rfl, if_pos hp, if_pos hp]
            refine pbd_cons (psd_expr (pd_ow (pd_append (pd_var 1) (pd_mod (pd_int1 mI (padd_cons (pd_var 3) padd_nil)) pd_int (by decide)) ⟨_, app_get⟩ app_get (by rw [List.length_map, List.length_append]; omega)) ?_)) (pbd_cons (psd_set 3 scPool.nd (pd_fdiv (pd_var 3) pd_int ⟨by decide, by decide⟩)) pbd_nil)
            rw [set_last, ← List.append_assoc, List.map_append (l₁ := poolP ss i ++ bigA c j)]
            rfl
          · have hp : ¬ 0 < bigC c j := of_decide_eq_false hb2
            rw [show bigC c (j + 1) = if 0 < bigC c j then bigC c j / 30 else bigC c j from rfl, show bigA c (j + 1) = if 0 < bigC c j then bigA c j ++ [bigC c j % 30] else bigA c j from rfl, if_neg hp, if_neg hp]
            exact pbd_nil
      · rw [if_neg (of_decide_eq_false hb)]
        generalize posC (ss.getD i 0) = c
        refine pbd_cons (psd_set 5 scPool.nd (pd_mod (pd_int1 mI (padd_cons (pd_add (pd_add (pd_mul (pd_var 3) pd_int (.inr ⟨by decide, by decide⟩)) (pd_mul (pd_var 2) pd_int (.inr ⟨by decide, by decide⟩))) pd_int) padd_nil)) pd_int (by decide))) ?_
        refine pbd_weak (st1 := pSt ss ow.length (some (.d (.int (0 + (i : Int))))) (some (.d (.int c))) none (some (.d (.int (smN c (0 + (i : Int)) 5))))) (pbd_cons (psd_forG [4] (fun j => pSt ss ow.length (some (.d (.int (0 + (i : Int))))) (some (.d (.int c))) none (some (.d (.int (smN c (0 + (i : Int)) j))))) (fun j => ow ++ [.l ((poolP ss i ++ smA c (0 + (i : Int)) j).map D.int)]) none (fun j => pSt ss ow.length (some (.d (.int (0 + (i : Int))))) (some (.d (.int c))) (some (.d (.int (0 + (j : Int))))) (some (.d (.int (smN c (0 + (i : Int)) j))))) (fun j => .nx (pSt ss ow.length (some (.d (.int (0 + (i : Int))))) (some (.d (.int c))) none (some (.d (.int (smN c (0 + (i : Int)) (j + 1)))))) (ow ++ [.l ((poolP ss i ++ smA c (0 + (i : Int)) (j + 1)).map D.int)])) (xs := rngD 0 5) PassesOwn.never rfl
          (pid_range1 mR (padd_cons pd_int padd_nil) (by decide)) ⟨rfl, by (intro i r h; rcases i with _ | _ | _ | _ | _ | _ | _ | _ | _ | i <;> first | exact h | cases h)⟩ (by show ow ++ [.l ((poolP ss i ++ []).map D.int)] = _; rw [List.append_nil]) (fun j d hd _ => ?_) (fun j d hd _ => ?_) (fun j hj _ => .inl rfl) rfl) pbd_nil) rfl (by (intro i r h; rcases i with _ | _ | _ | _ | _ | _ | _ | _ | _ | i <;> first | exact h | cases h))
        · obtain ⟨rfl, hj⟩ := rng_at hd
          exact pgd_name 4 scPool.nd
        · obtain ⟨rfl, hj⟩ := rng_at hd
          have hsl := smA_len c (0 + (i : Int)) j
          obtain ⟨n0, n1⟩ := smN_rng c (0 + (i : Int)) j
          refine pbd_weak (st1 := pSt ss ow.length (some (.d (.int (0 + (i : Int))))) (some (.d (.int c))) (some (.d (.int (0 + (j : Int))))) (some (.d (.int (smN c (0 + (i : Int)) (j + 1)))))) (pbd_cons (psd_set 5 scPool.nd (pd_mod (pd_int1 mI (padd_cons (pd_add (pd_add (pd_add (pd_mul (pd_var 5) (pd_var 5) (.inl ⟨by omega, by omega⟩)) (pd_mul (pd_var 4) pd_int (.inr ⟨by decide, by decide⟩))) (pd_var 2)) pd_int) padd_nil)) pd_int (by decide))) (pbd_cons (psd_expr (pd_ow (pd_append (pd_var 1) (pd_fdiv (pd_var 5) pd_int ⟨by decide, by decide⟩) ⟨_, app_get⟩ app_get (by rw [List.length_map, List.length_append]; omega)) ?_)) pbd_nil)) rfl (by (intro i r h; rcases i with _ | _ | _ | _ | _ | _ | _ | _ | _ | i <;> first | exact h | cases h))
          rw [set_last]
          rw [show smA c (0 + (i : Int)) (j + 1) = smA c (0 + (i : Int)) j ++ [smN c (0 + (i : Int)) (j + 1) / 7] from rfl, ← List.append_assoc, List.map_append (l₁ := poolP ss i ++ smA c (0 + (i : Int)) j)]
          rfl
    · refine pbd_cons (psd_expr (pd_ow (pd_reverse (pd_var 1) app_get) (owB := ow ++ [.l ((poolZ ss).map D.int)]) ?_)) (pbd_last (psd_ret (pd_var 1)))
      rw [set_last]
      have e : (rngD 0 (min ss.length 63)).length = min ss.length 63 := by unfold rngD; rw [List.length_map, List.length_range]
      rw [e]
      unfold poolZ
      rw [List.map_reverse]
end
end Bl
set_option Elab.async false
set_option linter.all false
set_option maxRecDepth 100000
set_option maxHeartbeats 4000000
namespace Bl
open PySem PySem.Spec PyProof.Rows L2
section
variable {X : Cx} {a b : Expr} {st : Sta} {ow ow1 ow2 : List OB} {ds es' : List D} {pos : Pos}
theorem pd_catO {i j : Nat} (ha : PD X st ow a (.own i) ow1) (hb : PD X st ow1 b (.own j) ow2) (hi : ow2[i]? = some (.l ds)) (hj : ow2[j]? = some (.l es')) (hl : ds.length + es'.length ≤ 100000) : PD X st ow (.BinOp a .Add b pos) (.d (.lst (ds ++ es'))) ow2 :=
  (pe_op op_cat ha hb).imp fun σ H Q ⟨S, sl, o, k⟩ => ⟨S, sl, o, fun S1 v1 H1 f1 o1 d1 => ⟨S1, f1.slots sl, o1, fun S2 v2 H2 f2 o2 d2 => by
    obtain ⟨p, xs, rfl, _, h1, h2⟩ := own_sq o2 (f2.denR d1) hi
    obtain ⟨q, ys, rfl, _, h3, h4⟩ := own_sq o2 d2 hj
    refine ⟨p, q, xs, ys, rfl, rfl, h1, h3, by rw [Dens.length h2, Dens.length h4, sizeLine_eq]; omega, fun l hl => ?_⟩
    exact k S2 _ _ (f1.trans o1 (f2.trans o2 (.of (Evl.Ex.new hl)))) (o2.ex (Evl.Ex.new hl)) (.d (new_lst o2 hl (Dens.append h2 h4)))⟩⟩
end
/-! ### the faulty row -/
def faultD (ns : List Int) (w p : Int) : D :=
  if w = 0 then .lst ((ns.take 3).map D.int) else if w = 1 then .lst ((ns ++ [1]).map D.int) else if w = 2 then .lst ((ns.map D.int).set p.toNat (.int 2)) else if w = 3 then .lst ((ns.map D.int).set p.toNat (.int (-2)))
  else if w = 4 then .lst ((ns.map D.int).set p.toNat (.bl true)) else if w = 5 then .lst ((ns.map D.int).set p.toNat .non) else .str "+0--"
theorem nextV_rng (ps : List Int) {m : Int} (h : 0 < m) : 0 ≤ nextV ps m ∧ nextV ps m < m := by
  unfold nextV
  cases ps.getLast? with
  | none => exact ⟨Int.le_refl _, h⟩
  | some x => exact ⟨Int.emod_nonneg _ (by omega), Int.emod_lt_of_pos _ h⟩
section
variable {P : Program} {w : World} {K : PySem.W.Frag} {mg : Str → Option Value} {base : Heap} {f : Addr} {fd : FuncData} {k : Nat} {C : Addr}
def gFaulty : GG := fun rs ow r ow' => ∃ (k : Nat) (ps ns : List Int), rs = [.own k, .d (.lst (ns.map D.int))] ∧ ow[k]? = some (.l (ps.map D.int)) ∧ ns.length = 4 ∧ r = .d (faultD ns (nextV ps 7) (nextV ps.dropLast 4)) ∧ ow' = ow.set k (.l (ps.dropLast.dropLast.map D.int))
theorem psd_ifT {X : Cx} {c : Expr} {tb eb : List Stmt} {st : Sta} {ow ow1 : List OB} {bl : Bool} {out : Out} {pos : Pos} (hc : PTD X st ow c bl ow1) (hb : bl = true) (h : PBD X st ow1 tb out) : PSD X st ow (.If c tb eb pos) out := by
  subst hb
  exact psd_if hc (fun _ => h) (fun z => nomatch z)
theorem psd_ifF {X : Cx} {c : Expr} {tb eb : List Stmt} {st : Sta} {ow ow1 : List OB} {bl : Bool} {out : Out} {pos : Pos} (hc : PTD X st ow c bl ow1) (hb : bl = false) (h : PBD X st ow1 eb out) : PSD X st ow (.If c tb eb pos) out := by
  subst hb
  exact psd_if hc (fun z => nomatch z) (fun _ => h)
theorem psd_ow {X : Cx} {s : Stmt} {st st1 : Sta} {ow owA owB : List OB} (h : PSD X st ow s (.nx st1 owA)) (he : owA = owB) : PSD X st ow s (.nx st1 owB) := he ▸ h
theorem get_set {ow : List OB} {k : Nat} {l m : List D} (h : ow[k]? = some (.l l)) : (ow.set k (.l m))[k]? = some (.l m) := by
  rw [List.getElem?_set, if_pos rfl, if_pos (List.getElem?_eq_some_iff.mp h).1]
end
end Bl
set_option Elab.async false
set_option linter.all false
set_option maxRecDepth 100000
set_option maxHeartbeats 4000000
namespace Bl
open PySem PySem.Spec PyProof.Rows L2
/-! ### dicts with tuples for keys, that change -/
def putT (gs : List (List Key × D)) (k : List Key) (d : D) : List (List Key × D) :=
  if (gs.any fun kv => decide (kv.1 = k)) = true then gs.map (fun kv => if kv.1 = k then (kv.1, d) else kv) else gs ++ [(k, d)]
section
variable {K : PySem.W.Frag} {S : List Addr} {H : Hp}
theorem kds_any {kk : List Key} : ∀ {kvs : List (List Key × V)} {gs : List (List Key × D)}, KDs K S H kvs gs → (kvs.any fun kv => decide (kv.1 = kk)) = (gs.any fun kv => decide (kv.1 = kk))
  | [], [], _ => rfl
  | [], _ :: _, h => nomatch h
  | _ :: _, [], h => nomatch h
  | (k1, v1) :: kvs, (k2, d2) :: gs, h => by
    cases h with
    | kcons h r =>
      rw [List.any_cons, List.any_cons, kds_any r]
theorem kds_map {kk : List Key} {v : V} {d : D} (hv : Den K S H v d) : ∀ {kvs : List (List Key × V)} {gs : List (List Key × D)}, KDs K S H kvs gs →
    KDs K S H (kvs.map fun kv => if kv.1 = kk then (kv.1, v) else kv) (gs.map fun kv => if kv.1 = kk then (kv.1, d) else kv)
  | [], [], _ => .knil
  | [], _ :: _, h => nomatch h
  | _ :: _, [], h => nomatch h
  | (k1, v1) :: kvs, (k2, d2) :: gs, h => by
    cases h with
    | kcons h r =>
      rw [List.map_cons, List.map_cons]
      by_cases hk : k1 = kk
      · rw [if_pos hk, if_pos hk]
        exact .kcons hv (kds_map hv r)
      · rw [if_neg hk, if_neg hk]
        exact .kcons h (kds_map hv r)
theorem kds_app : ∀ {kvs kvt : List (List Key × V)} {gs gt : List (List Key × D)}, KDs K S H kvs gs → KDs K S H kvt gt → KDs K S H (kvs ++ kvt) (gs ++ gt)
  | [], _, [], _, _, r => r
  | [], _, _ :: _, _, h, _ => nomatch h
  | _ :: _, _, [], _, h, _ => nomatch h
  | (k1, v1) :: kvs, _, (k2, d2) :: gs, _, h, r => by
    cases h with
    | kcons h r1 => exact .kcons h (kds_app r1 r)
theorem kds_put {kk : List Key} {v : V} {d : D} (hv : Den K S H v d) {kvs : List (List Key × V)} {gs : List (List Key × D)} (h : KDs K S H kvs gs) : KDs K S H (putK kvs kk v) (putT gs kk d) := by
  unfold putK putT
  rw [kds_any h]
  split
  · exact kds_map hv h
  · exact kds_app h (.kcons hv .knil)
theorem kds_length : ∀ {kvs : List (List Key × V)} {gs : List (List Key × D)}, KDs K S H kvs gs → kvs.length = gs.length
  | [], [], _ => rfl
  | [], _ :: _, h => nomatch h
  | _ :: _, [], h => nomatch h
  | (k1, v1) :: kvs, (k2, d2) :: gs, h => by
    cases h with
    | kcons h r => rw [List.length_cons, List.length_cons, kds_length r]
theorem own_t {ow : List OB} {v : V} {k : Nat} {gs : List (List Key × D)} (o : Owns K S H ow) (h : DenR K S H v (.own k)) (hk : ow[k]? = some (.t gs)) : ∃ a kvs, v = .ref a ∧ S[k]? = some a ∧ H a = some (.dT kvs) ∧ KDs K S H kvs gs := by
  cases h with
  | own h =>
    obtain ⟨a, z, y⟩ := o.ob k _ hk
    rw [h] at z
    cases z
    cases y with
    | t y r => exact ⟨_, _, rfl, h, y, r⟩
end
section
variable {X : Cx} {e a b c o : Expr} {es : List Expr} {st st1 st2 : Sta} {ow ow1 ow2 ow3 : List OB} {r : R} {rs : List R} {d x y z : D} {ds : List D} {pos p p2 tpos : Pos} {ns : List Int} {k : Nat} {gs : List (List Key × D)} {i j : Int} {lo hi : Option Expr} {ilo ihi : Option Int} {tg : Expr}
/-- {} as a dict with tuples for keys -/
theorem pd_newT : PD X st ow (.Dict [] [] pos) (.own ow.length) (ow ++ [.t []]) :=
  (pe_dnewT).imp fun σ H Q ⟨S, sl, o, q⟩ p hp => by
    obtain ⟨f, o2, d2⟩ := own_newB o hp (.t upd_same .knil)
    exact q _ _ _ f o2 d2
/-- d[t] = e -/
theorem psd_putT (hu : X.A.units + 1 < cLine) (he : PD X st ow e (.d d) ow1) (ho : PD X st ow1 o (.own k) ow2) (hi : PD X st ow2 b (.d (.tup (ns.map D.int))) ow3) (hk : ow3[k]? = some (.t gs)) (hz : gs.length < 100000)
    (hs : swapsWith e (some (.Subscript o b tpos)) pos.line X.env = pure false := by rfl) : PSD X st ow (.Assign [.Subscript o b tpos] e pos) (.nx st (ow3.set k (.t (putT gs (ns.map Sum.inl) d)))) :=
  (ps_dput hu ho hi he hs).imp fun E σ H ⟨S, sl, o, q⟩ => ⟨S, sl, o, fun S1 v H1 f1 o1 d1 => ⟨S1, f1.slots sl, o1, fun S2 w H2 f2 o2 d2 => ⟨S2, (f1.trans o1 f2).slots sl, o2, fun S3 z H3 f3 o3 d3 => by
    obtain ⟨a, kvs, rfl, g1, g2, g3⟩ := own_t o3 (f3.denR d2) hk
    cases d1 with
    | d d1 =>
      cases d3 with
      | d d3 =>
        cases d3 with
        | tup h3 r3 =>
          have e3 := Dens.ints r3
          subst e3
          have f23 := f2.trans o2 f3
          have dv := f23.den d1
          obtain ⟨u1, u2⟩ := own_putB (b' := .t (putT gs (ns.map Sum.inl) d)) (u := .dT (putK kvs (ns.map Sum.inl) v)) o3 g1 fun ex => .t upd_same (DenG.mono ex (kds_put dv g3))
          have fw : Fwd S3 H3 S3 (upd H3 a (.dT (putK kvs (ns.map Sum.inl) v))) := ⟨⟨[], (List.append_nil _).symm, fun _ z => nomatch z⟩, u1⟩
          have hb := h3.2
          refine ⟨a, _, rfl, DPut.t (k := ns.map Sum.inl) g2 (by rw [hb, List.map_map]; rfl) (by rw [kds_length g3]; exact Evl.sz_lt hz), ?_⟩
          exact q S3 σ _ (f1.trans o1 (f23.trans o3 fw)) ((f1.trans o1 (f23.trans o3 fw)).slots sl) u2⟩⟩⟩
/-- d[t], d one of the mutable ones -/
theorem pd_getO (hu : X.A.units + 1 < cLine) (ho : PD X st ow a (.own k) ow1) (hi : PD X st ow1 b (.d (.tup (ns.map D.int))) ow2) (hk : ow2[k]? = some (.t gs)) (hl : lookT gs ns = some d) (hs : NoSl b := by exact fun _ _ => rfl) : PD X st ow (.Subscript a b pos) (.d d) ow2 :=
  (pe_dget hu ho hi hs).imp fun σ H Q ⟨S, sl, o, q⟩ => ⟨S, sl, o, fun S1 v1 H1 f1 o1 d1 => ⟨S1, f1.slots sl, o1, fun S2 v2 H2 f2 o2 d2 => by
    obtain ⟨a, kvs, rfl, g1, g2, g3⟩ := own_t o2 (f2.denR d1) hk
    cases d2 with
    | d d2 =>
      cases d2 with
      | tup h2 r2 =>
        have e1 := Dens.ints r2
        subst e1
        obtain ⟨v, hv, dv⟩ := kds_val g3 d hl
        refine ⟨_, v, rfl, .inr ⟨_, ns.map Sum.inl, _, .inl g2, rfl, ?_, hv.symm⟩, q S2 v H2 (f1.trans o1 f2) o2 (.d dv)⟩
        rw [h2.2, List.map_map] <;> rfl⟩⟩
theorem owns_nin {K : PySem.W.Frag} {S : List Addr} {H : Hp} {ow : List OB} (o : Owns K S H ow) {p : Addr} {xs : List V} (hp : H p = some (.tup xs)) : p ∉ S := fun q => by
  obtain ⟨k, hk, e⟩ := List.getElem_of_mem q
  have hk2 : k < ow.length := by rw [← o.len]; exact hk
  obtain ⟨a, z, y⟩ := o.ob k _ (List.getElem?_eq_getElem hk2)
  have e2 : S[k]? = some p := by rw [List.getElem?_eq_getElem hk, e]
  rw [e2] at z
  cases z
  generalize ow[k] = b at y
  cases y with
  | l y _ => rw [hp] at y; cases y
  | t y _ => rw [hp] at y; cases y
  | g y _ => rw [hp] at y; cases y
  | r y _ => rw [hp] at y; cases y
def tabI (l : List (List Int × Int)) : List (List Key × D) := l.map fun p => (keyI p.1, D.int p.2)
theorem tabI_len (l : List (List Int × Int)) : (tabI l).length = l.length := by unfold tabI; rw [List.length_map]
theorem dens_isKeys {K : PySem.W.Frag} {S : List Addr} {H H2 : Hp} {ow : List OB} (o : Owns K S H ow) (ex : Evl.Ex H H2) : ∀ {l : List (List Int × Int)} {kvs : List (List Key × V)} {bs : List Addr}, KDs K S H kvs (tabI l) → IsKeys H kvs bs → Dens K S H2 (bs.map V.ref) (l.map fun p => tupI p.1)
  | [], [], [], _, _ => .nil
  | [], _ :: _, _, h, _ => nomatch h
  | _ :: _, [], _, h, _ => nomatch h
  | [], [], _ :: _, _, h => nomatch h
  | _ :: _, _ :: _, [], _, h => nomatch h
  | p :: l, (k1, v1) :: kvs, b :: bs, h, hb => by
    have h' : KDs K S H ((k1, v1) :: kvs) ((keyI p.1, D.int p.2) :: tabI l) := h
    cases h' with
    | kcons h1 r =>
      cases hb with
      | cons hb1 hbr =>
        have hb2 : H b = some (.tup (p.1.map V.int)) := by
          rw [hb1]
          show some (HO.tup ((p.1.map Sum.inl).map kV)) = _
          rw [List.map_map]; rfl
        exact .cons (.tup ⟨owns_nin o hb2, ex _ _ hb2⟩ (Dens.of_ints _)) (dens_isKeys o ex r hbr)
/-- list(d), d a mutable dict with tuples of ints for keys -/
theorem pd_listT' {l : List (List Int × Int)} (hc : X.calm = true) (hm : X.mg "list" = none) (ha : PD X st ow e (.own k) ow1) (hk : ow1[k]? = some (.t (tabI l))) (hg : Gl X "list" := by rfl) (he : starEach [e] X.env = (false, eval e X.env) :: starEach [] X.env := by rfl) : PD X st ow (.Call (.Name "list" p) [e] [] pos) (.d (.lst (l.map fun p => tupI p.1))) ow1 :=
  (pe_callTy (call_list_dT hc) hg hm (by decide +kernel) (pa_cons ha pa_nil he) (by decide) (by decide) he rfl).imp fun σ H Q ⟨S, sl, o, q⟩ => ⟨S, sl, o, fun S1 vs H1 f1 o1 d1 => by
    obtain ⟨a, kvs, rfl, g1, g2, g3⟩ := own_t o1 d1 hk
    refine ⟨a, kvs, rfl, .inl g2, fun p bs hp hb => ?_⟩
    have ex := Evl.Ex.new (o := HO.lst (bs.map V.ref)) hp
    refine q S1 _ _ (f1.trans o1 (.of ex)) (o1.ex ex) (.d (.lst (.inl ⟨o1.nin hp, .inl upd_same⟩) (dens_isKeys o1 ex g3 hb)))⟩
/-! ### lists that are live -/
theorem pd_lstW {l : List D} (h : PD X st ow e (.d (.lstV l)) ow1) : PD X st ow e (.d (.lst l)) ow1 :=
  PE.imp h fun σ H Q ⟨S, sl, o, q⟩ => ⟨S, sl, o, fun S1 v H1 f1 o1 d1 => q S1 v H1 f1 o1 (by
    cases d1 with
    | d d1 => exact .d d1.lstW)⟩
theorem pd_catV {es' : List D} (ha : PD X st ow a (.d (.lstV ds)) ow1) (hb : PD X st ow1 b (.d (.lstV es')) ow2) (hl : ds.length + es'.length ≤ 100000) : PD X st ow (.BinOp a .Add b pos) (.d (.lstV (ds ++ es'))) ow2 :=
  (pe_op op_cat ha hb).imp fun σ H Q ⟨S, sl, o, q⟩ => ⟨S, sl, o, fun S1 v1 H1 f1 o1 d1 => ⟨S1, f1.slots sl, o1, fun S2 v2 H2 f2 o2 d2 => by
    cases d1 with
    | d d1 =>
      cases d2 with
      | d d2 =>
        have d1' : Den X.K S2 H2 v1 (.lstV ds) := f2.den d1
        cases d1' with
        | lstV n1 h1 r1 =>
          cases d2 with
          | lstV n2 h2 r2 =>
            refine ⟨_, _, _, _, rfl, rfl, h1, h2, by rw [Dens.length r1, Dens.length r2, sizeLine_eq]; omega, fun l hl => ?_⟩
            exact q S2 _ _ (f1.trans o1 (f2.trans o2 (.of (Evl.Ex.new hl)))) (o2.ex (Evl.Ex.new hl)) (.d (new_lstV o2 hl (Dens.append r1 r2)))⟩⟩
theorem pd_slV (he : PD X st ow e (.d (.lst ds)) ow1) (h1 : POD X st ow1 lo ilo) (h2 : POD X st ow1 hi ihi) : PD X st ow (.Subscript e (.Slice lo hi none p2) pos) (.d (.lstV (cutD ds ilo ihi))) ow1 :=
  (pe_slice sl_list he h1 h2).imp fun σ H Q ⟨S, sl, o, k⟩ => ⟨S, sl, o, fun S1 v H1 f1 o1 d1 => ⟨S1, f1.slots sl, o1, fun S2 H2 f2 o2 => ⟨S2, (f1.trans o1 f2).slots sl, o2, fun S3 H3 f3 o3 => by
    cases d1 with
    | d d1 =>
      obtain ⟨a, xs, rfl, h1, h2⟩ := d1.of_lst
      have f23 := f2.trans o2 f3
      have l3 : Den X.K S3 H3 (.ref a) (.lst ds) := f23.den d1
      obtain ⟨a', xs', e', h1', h2'⟩ := l3.of_lst
      cases e'
      exact ⟨a, xs', rfl, h1'.sq, fun p hp => k S3 _ _ (f1.trans o1 (f23.trans o3 (.of (Evl.Ex.new hp)))) (o3.ex (Evl.Ex.new hp)) (.d (new_lstV o3 hp (dens_cut h2')))⟩⟩⟩⟩
/-- a slice as a new mutable list -/
theorem pd_slO (he : PD X st ow e (.d (.lst ds)) ow1) (h1 : POD X st ow1 lo ilo) (h2 : POD X st ow1 hi ihi) : PD X st ow (.Subscript e (.Slice lo hi none p2) pos) (.own ow1.length) (ow1 ++ [.l (cutD ds ilo ihi)]) :=
  (pe_slice sl_list he h1 h2).imp fun σ H Q ⟨S, sl, o, k⟩ => ⟨S, sl, o, fun S1 v H1 f1 o1 d1 => ⟨S1, f1.slots sl, o1, fun S2 H2 f2 o2 => ⟨S2, (f1.trans o1 f2).slots sl, o2, fun S3 H3 f3 o3 => by
    cases d1 with
    | d d1 =>
      obtain ⟨a, xs, rfl, h1, h2⟩ := d1.of_lst
      have f23 := f2.trans o2 f3
      have l3 : Den X.K S3 H3 (.ref a) (.lst ds) := f23.den d1
      obtain ⟨a', xs', e', h1', h2'⟩ := l3.of_lst
      cases e'
      refine ⟨a, xs', rfl, h1'.sq, fun p hp => ?_⟩
      obtain ⟨g1, g2, g3⟩ := own_new o3 hp (dens_cut (lo := ilo) (hi := ihi) h2')
      exact k _ _ _ (f1.trans o1 (f23.trans o3 g1)) g2 g3⟩⟩⟩
/-- list(range(n)) -/
theorem pd_lstRg {q1 p1 : Pos} {n : Int} (hc : X.calm = true) (hm : X.mg "list" = none) (hr : X.mg "range" = none) (h : PD X st ow e (.d (.int n)) ow1) (hn : 0 ≤ n ∧ n ≤ 1000) (hg : Gl X "list" := by rfl) (hg2 : Gl X "range" := by rfl) (na : starEach [e] X.env = (false, eval e X.env) :: starEach [] X.env := by rfl)
    (nb : starEach [.Call (.Name "range" q1) [e] [] p1] X.env = (false, eval (.Call (.Name "range" q1) [e] [] p1) X.env) :: starEach [] X.env := by rfl) : PD X st ow (.Call (.Name "list" p) [.Call (.Name "range" q1) [e] [] p1] [] pos) (.d (.lstV (rngD 0 n.toNat))) ow1 :=
  (pe_listRg hc hg hm (prg_1 hg2 hr h na) nb).imp fun σ H Q ⟨S, sl, o, k⟩ => ⟨S, sl, o, fun S1 v H1 f1 o1 d1 => by
    cases d1 with
    | d d1 =>
      refine ⟨n, d1.of_int, .of_le (Int.le_refl 0) (by omega) (by omega) hn.1, fun q hq => ?_⟩
      exact k S1 _ _ (f1.trans o1 (.of (Evl.Ex.new hq))) (o1.ex (Evl.Ex.new hq)) (.d (new_lstV o1 hq (dens_rg hn.1)))⟩
theorem pid_range2 {n m : Int} (hm : X.mg "range" = none) (ha : PADd X st ow [a, b] [.int n, .int m] ow1) (hn : -(2 ^ 62) ≤ n ∧ n < 2 ^ 62) (h2 : -(2 ^ 62) ≤ m ∧ m < 2 ^ 62) (hg : Gl X "range" := by rfl) (he : starEach [a, b] X.env = [(false, eval a X.env), (false, eval b X.env)] := by rfl) (he2 : starEach [b] X.env = [(false, eval b X.env)] := by rfl) : PID X st ow tg (.Call (.Name "range" p) [a, b] [] pos) (rngD n (m - n).toNat) ow1 :=
  (pi_range2 (tg := tg) (p := p) (pos := pos) hg hm ha he he2).imp fun σ H Q ⟨S, sl, o, k⟩ => ⟨S, sl, o, fun S1 vs H1 f1 o1 d1 => by
    obtain ⟨v, w, rfl, g1, g2⟩ := dens2 (densOf d1)
    exact ⟨n, m, by rw [g1.of_int, g2.of_int], ⟨hn.1, hn.2, h2.1, h2.2⟩, k S1 H1 _ f1 o1 wd_rng⟩⟩
/-- x += e, of ints -/
theorem psd_augI (q : Nat) {x : Str} {pos' : Pos} (hN : X.N.Nodup) (hs : st[q]? = some (some (.d (.int i)))) (he : PD X st ow e (.d (.int j)) ow1) (hi : X.N[q]? = some x := by rfl) (hx : Loc X.env.scope x := by first | exact Or.inl rfl | exact Or.inr rfl)
    (hf : X.fn x = true ∨ X.env.scope.names.lookup x = some .local := by first | exact .inl rfl | exact .inr rfl | assumption) : PSD X st ow (.AugAssign (.Name x pos') .Add e pos) (.nx (st.set q (some (.d (.int (i + j))))) ow1) :=
  (ps_aug hN hi hx he ip_add hf).imp fun E σ H ⟨S, sl, o, k⟩ => by
    obtain ⟨v, h1, h2⟩ := sl.sl q _ hs
    cases h2 with
    | d h2 =>
      refine ⟨v, h1, S, sl, o, fun S1 w H1 f1 o1 d1 => ?_⟩
      cases d1 with
      | d d1 =>
        rw [h2.of_int, d1.of_int]
        exact ⟨i, j, rfl, rfl, k S1 _ H1 f1 ((f1.slots sl).set q (.d (.int _))) o1⟩
end
end Bl
set_option Elab.async false
set_option linter.all false
set_option maxRecDepth 100000
set_option maxHeartbeats 4000000
namespace Bl
open PySem PySem.Spec PyProof.Rows L2
theorem findSome_eq {α β : Type} (rr : α → Option β) : ∀ as : List α, as.findSome? rr = (as.find? fun x => (rr x).isSome).bind rr
  | [] => rfl
  | a :: l => by
    rw [List.findSome?_cons, List.find?_cons]
    cases h : rr a with
    | some r => simp [h]
    | none => simp only [Option.isSome_none]; exact findSome_eq rr l
section
variable {X : Cx} {tg iter : Expr} {body rest : List Stmt} {st base : Sta} {ow ow1 : List OB} {pos : Pos} {out : Out}
/-- a for whose turns all go on: a fold -/
theorem psd_forF {α σ : Type} (vs : List Nat) (as : List α) (enc : α → D) (s0 : σ) (ff : σ → α → σ) (stF : σ → Sta) (stX : σ → α → Sta) (owF : σ → List OB) (hp : PassesOwn (model X.prog X.w) X.A X.env X.xe) (hc : X.calm = true) (hi : PID X st ow tg iter (as.map enc) ow1)
    (h0 : st.length = (stF s0).length ∧ ∀ (i : Nat) r, (stF s0)[i]? = some (some r) → st[i]? = some (some r)) (h0o : owF s0 = ow1)
    (hg : ∀ l x r, as = l ++ x :: r → PGD X vs (stF (l.foldl ff s0)) (enc x) tg (stX (l.foldl ff s0) x))
    (hb : ∀ l x r, as = l ++ x :: r → PBD X (stX (l.foldl ff s0) x) (owF (l.foldl ff s0)) body (.nx (stF (ff (l.foldl ff s0) x)) (owF (ff (l.foldl ff s0) x))))
    (hs : ∀ x, foldedSetIterable iter X.env x = pure x := by intro _; rfl) : PSD X st ow (.For tg iter body [] pos) (.nx (stF (as.foldl ff s0)) (owF (as.foldl ff s0))) := by
  have split : ∀ i x, as[i]? = some x → as = as.take i ++ x :: as.drop (i + 1) := fun i x h => by
    obtain ⟨h1, h2⟩ := List.getElem?_eq_some_iff.mp h
    rw [← h2, List.getElem_cons_drop, List.take_append_drop]
  have nxt : ∀ i x, as[i]? = some x → (as.take (i + 1)).foldl ff s0 = ff ((as.take i).foldl ff s0) x := fun i x h => by
    rw [take_succ_of h, List.foldl_append]
    rfl
  refine psd_forG vs (fun i => stF ((as.take i).foldl ff s0)) (fun i => owF ((as.take i).foldl ff s0)) none (fun i => (as[i]?).elim [] (stX ((as.take i).foldl ff s0))) (fun i => .nx (stF ((as.take (i + 1)).foldl ff s0)) (owF ((as.take (i + 1)).foldl ff s0))) hp hc hi h0 h0o (fun i d hd _ => ?_) (fun i d hd _ => ?_) (fun i hil _ => ?_) ?_ hs
  · obtain ⟨x, h1, rfl⟩ := map_some_of hd
    rw [h1]
    exact hg _ _ _ (split i x h1)
  · obtain ⟨x, h1, rfl⟩ := map_some_of hd
    rw [h1, nxt i x h1]
    exact hb _ _ _ (split i x h1)
  · rw [if_neg (fun z => nomatch z)]
    exact .inl rfl
  · show Out.nx _ _ = Out.nx _ _
    rw [List.length_map, List.take_length]
/-- a for that leaves at the first turn that tells a result -/
theorem pbd_forS {α : Type} (vs : List Nat) (base : Sta) (as : List α) (enc : α → D) (rr : α → Option R) (stx : α → Sta) (hp : PassesOwn (model X.prog X.w) X.A X.env X.xe) (hc : X.calm = true) (hi : PID X st ow tg iter (as.map enc) ow1) (h0 : st.length = base.length ∧ ∀ (i : Nat) r, base[i]? = some (some r) → st[i]? = some (some r))
    (hg : ∀ x, x ∈ as → PGD X vs base (enc x) tg (stx x)) (hb : ∀ x, x ∈ as → PBD X (stx x) ow1 body ((rr x).elim (.nx base ow1) fun r => .ret r ow1))
    (hend : as.findSome? rr = none → PBD X base ow1 rest out) (hf : ∀ r, as.findSome? rr = some r → out = .ret r ow1) (hs : ∀ x, foldedSetIterable iter X.env x = pure x := by intro _; rfl) : PBD X st ow (.For tg iter body [] pos :: rest) out := by
  have hfi := findSome_eq rr as
  refine pbd_find vs base as enc (fun x => (rr x).isSome) (fun x => (rr x).getD (.d .non)) stx hp hc hi h0 hg (fun x hx h => ?_) (fun x hx h => ?_) (fun h => ?_) (fun x h => ?_) hs
  · have := hb x hx
    cases hr : rr x with
    | some r => rw [hr] at h; cases h
    | none => rw [hr] at this; exact this
  · have := hb x hx
    cases hr : rr x with
    | some r => rw [hr] at this; exact this
    | none => rw [hr] at h; cases h
  · exact hend (by rw [hfi, h]; rfl)
  · refine hf _ ?_
    rw [hfi, h]
    have := List.find?_some h
    show rr x = some ((rr x).getD (.d .non))
    cases hr : rr x with
    | some r => rfl
    | none => rw [hr] at this; cases this
end
end Bl
set_option Elab.async false
set_option linter.all false
set_option maxRecDepth 100000
set_option maxHeartbeats 4000000
namespace Bl
open PySem PySem.Spec PyProof.Rows L2
/-! ### turns and rows -/
abbrev Trn := Nat × Nat
def turnD (t : Trn) : D := tupI [(t.1 : Int), (t.2 : Int)]
def turnR (row : List Int) (t : Trn) : List Int := row.take t.1 ++ ((row.drop t.1).take t.2).reverse ++ row.drop (t.1 + t.2)
theorem turnR_len (row : List Int) (t : Trn) : (turnR row t).length = row.length := by
  unfold turnR
  rw [List.length_append, List.length_append, List.length_reverse, List.length_take, List.length_take, List.length_drop, List.length_drop]
  omega
theorem turnsR_len (row : List Int) : ∀ ts : List Trn, (ts.foldl turnR row).length = row.length := by
  intro ts
  induction ts generalizing row with
  | nil => rfl
  | cons t ts ih => rw [List.foldl_cons, ih, turnR_len]
def rowsZ (r0 : List Int) (ts : List Trn) : List (List Int) := (List.range (ts.length + 1)).map fun i => (ts.take i).foldl turnR r0
theorem rowsZ_get (r0 : List Int) (ts : List Trn) (i : Nat) (h : i ≤ ts.length) : (rowsZ r0 ts)[i]? = some ((ts.take i).foldl turnR r0) := by
  unfold rowsZ
  rw [List.getElem?_map, List.getElem?_range (by omega)]
  rfl
theorem rowsZ_snoc (r0 : List Int) (l : List Trn) (t : Trn) : rowsZ r0 (l ++ [t]) = rowsZ r0 l ++ [turnR (l.foldl turnR r0) t] := by
  unfold rowsZ
  rw [List.length_append, List.length_singleton, List.range_succ, List.map_append]
  congr 1
  · refine List.map_congr_left fun i hi => ?_
    have := List.mem_range.mp hi
    rw [List.take_append_of_le_length (by omega)]
  · rw [List.map_singleton, List.take_of_length_le (by simp), List.foldl_append]
    rfl
def rowStep (s : List Int × List (List Int)) (t : Trn) : List Int × List (List Int) := (turnR s.1 t, s.2 ++ [turnR s.1 t])
theorem rows_fold (r0 : List Int) : ∀ (m : List Trn) (l : List Trn), m.foldl rowStep (l.foldl turnR r0, rowsZ r0 l) = ((l ++ m).foldl turnR r0, rowsZ r0 (l ++ m))
  | [], l => by rw [List.append_nil]; rfl
  | t :: m, l => by
    have h := rows_fold r0 m (l ++ [t])
    rw [List.append_assoc] at h
    rw [List.foldl_cons]
    have e : rowStep (l.foldl turnR r0, rowsZ r0 l) t = ((l ++ [t]).foldl turnR r0, rowsZ r0 (l ++ [t])) := by
      rw [rowsZ_snoc, List.foldl_append]
      rfl
    rw [e]
    exact h
theorem rows_fold0 (r0 : List Int) (m : List Trn) : m.foldl rowStep (r0, [r0]) = (m.foldl turnR r0, rowsZ r0 m) := rows_fold r0 m []
theorem cut_pre (l : List Int) (p : Nat) : cutD (l.map D.int) none (some (p : Int)) = (l.take p).map D.int := by
  unfold cutD
  rw [HT.sIx_nat, HT.sIx_none, List.length_map, List.drop_zero, Nat.sub_zero, List.map_take]
  by_cases h : p ≤ l.length
  · rw [Nat.min_eq_left h]
  · rw [Nat.min_eq_right (by omega), List.take_of_length_le (by simp), List.take_of_length_le (by simp; omega)]
theorem cut_suf (l : List Int) (p : Nat) : cutD (l.map D.int) (some (p : Int)) none = (l.drop p).map D.int := by
  unfold cutD
  rw [HT.sIx_nat, HT.sIx_none, List.length_map, List.map_drop, List.take_of_length_le (by simp)]
  by_cases h : p ≤ l.length
  · rw [Nat.min_eq_left h]
  · rw [Nat.min_eq_right (by omega), List.drop_of_length_le (by simp), List.drop_of_length_le (by simp; omega)]
theorem cut_mid (l : List Int) (p m : Nat) : cutD (l.map D.int) (some (p : Int)) (some ((p : Int) + (m : Int))) = ((l.drop p).take m).map D.int := by
  unfold cutD
  rw [show (p : Int) + (m : Int) = ((p + m : Nat) : Int) by omega, HT.sIx_nat, HT.sIx_nat, List.length_map, List.map_take, List.map_drop]
  by_cases h : p ≤ l.length
  · rw [Nat.min_eq_left h]
    by_cases h2 : p + m ≤ l.length
    · rw [Nat.min_eq_left h2, Nat.add_sub_cancel_left]
    · rw [Nat.min_eq_right (by omega), List.take_of_length_le (by simp), List.take_of_length_le (by simp; omega)]
  · rw [Nat.min_eq_right (by omega), Nat.min_eq_right (by omega), List.drop_of_length_le (by simp), List.drop_of_length_le (by simp; omega), List.take_nil, List.take_nil]
def lstVI (l : List Int) : D := .lstV (l.map D.int)
section
variable {X : Cx} {e a b c o : Expr} {st : Sta} {ow ow1 ow2 : List OB} {pos p : Pos} {i j : Int}
theorem pd_max2 (hc : X.calm = true) (hm : X.mg "max" = none) (ha : PADd X st ow [a, b] [.int i, .int j] ow1) (hg : Gl X "max" := by rfl) (he : starEach [a, b] X.env = (false, eval a X.env) :: starEach [b] X.env := by rfl) (hpl : (backTo pos (starEach [b] X.env)).any (·.1) = false := by rfl) : PD X st ow (.Call (.Name "max" p) [a, b] [] pos) (.d (.int (if j > i then j else i))) ow1 :=
  pd_callB (call_max2 hc) (fun S H ow vs Q o h q => by
    obtain ⟨v, w, rfl, g, g'⟩ := dens2 h
    exact ⟨i, j, by rw [g.of_int, g'.of_int], q _ _ (Evl.Ex.refl H) (.int _)⟩) hm (by decide +kernel) ha hg (by decide) (by decide) he hpl
end
section
variable {P : Program} {w : World} {K : PySem.W.Frag} {mg : Str → Option Value} {base : Heap} {f : Addr} {fd : FuncData} {k : Nat} {C : Addr}
abbrev sSize : Stmt := topS 38
theorem scSize : FnScope ["_law_pool_here", "_law_least", "_law_most", "_law_word"] ["_law_pool_here", "_law_least", "_law_most"] (defScope sSize) := ⟨rfl, rfl, rfl, by decide +kernel, rfl, by decide +kernel, by decide +kernel⟩
def sizeZ (ps : List Int) (a b : Int) : Int := if nextV ps 12 = 11 then b else a + nextV ps 12 % (if b - a > 1 then b - a else 1)
def gSize : GG := fun rs ow r ow' => ∃ (k : Nat) (a b : Int) (ps : List Int), rs = [.own k, .d (.int a), .d (.int b)] ∧ ow[k]? = some (.l (ps.map D.int)) ∧ r = .d (.int (sizeZ ps a b)) ∧ ow' = ow.set k (.l (ps.dropLast.map D.int))
theorem ok_size (F : Fun K "_law_size" "_law_size" sSize f fd) (C1 : Fg P w K mg base "_law_next" k ["_law_pool_here", "_law_many"] gNext) (mI : mg "int" = none) (mM : mg "max" = none) : FnOk P w K mg base CX0 (k + 1) f fd ["_law_pool_here", "_law_least", "_law_most"] (spF K gSize) := by
  refine okF F scSize (fun rs ow r ow' h => ?_) (fun cdv A outer s H E hr rs ow r ow' h => ?_)
  · obtain ⟨k, a, b, ps, rfl, _⟩ := h
    rfl
  · obtain ⟨k, a, b, ps, rfl, hk, rfl, rfl⟩ := h
    refine pbd_cons (psd_set 3 scSize.nd (pd_cg C1 hr (Nat.le_refl _) (pad_cons (pd_var 0) (padd_cons pd_int padd_nil)) ⟨k, 12, ps, rfl, hk, by decide, rfl, rfl⟩)) ?_
    unfold sizeZ
    refine pbd_ifL (ptd_eq (pd_var 3) pd_int) (fun hb => ?_) trivial (fun hb => ?_)
    · rw [iv_eq] at hb
      rw [if_pos (of_decide_eq_true hb)]
      exact pbd_last (psd_ret (pd_var 2))
    · rw [iv_eq] at hb
      rw [if_neg (of_decide_eq_false hb)]
      exact pbd_last (psd_ret (pd_add (pd_var 1) (pd_mod (pd_int1 mI (padd_cons (pd_var 3) padd_nil)) (pd_max2 rfl mM (padd_cons pd_int (padd_cons (pd_sub (pd_var 2) (pd_var 1)) padd_nil))) (by split <;> omega))))
abbrev sRows : Stmt := topS 40
theorem scRows : FnScope ["_law_size_here", "_law_turns_here", "_law_row", "_law_rows_here", "_law_p", "_law_m", "_law_part_here"] ["_law_size_here", "_law_turns_here"] (defScope sRows) := ⟨rfl, rfl, rfl, by decide +kernel, rfl, by decide +kernel, by decide +kernel⟩
def gRows : GG := fun rs ow r ow' => ∃ (n : Int) (ts : List Trn), rs = [.d (.int n), .d (.lst (ts.map turnD))] ∧ 0 ≤ n ∧ n ≤ 100 ∧ ts.length ≤ 1000 ∧ r = .d (.lst ((rowsZ (rngZ n) ts).map lstVI)) ∧ ow' = ow
abbrev rwSt (n : Int) (ts : List Trn) (row : List Int) (k : Nat) (a b c : Option R) : Sta := [some (.d (.int n)), some (.d (.lst (ts.map turnD))), some (.d (lstVI row)), some (.own k), a, b, c]
theorem ok_rows (F : Fun K "_law_rows" "_law_rows" sRows f fd) (mL : mg "list" = none) (mR : mg "range" = none) : FnOk P w K mg base CX0 (k + 1) f fd ["_law_size_here", "_law_turns_here"] (spF K gRows) := by
  refine okF F scRows (fun rs ow r ow' h => ?_) (fun cdv A outer s H E hr rs ow r ow' h => ?_)
  · obtain ⟨n, ts, rfl, _⟩ := h
    rfl
  · obtain ⟨n, ts, rfl, h0, h1, h2, rfl, rfl⟩ := h
    refine pbd_frzR ?_ rfl
    have hlen : (rngZ n).length ≤ 100 := by rw [rngZ_len]; omega
    refine pbd_cons (psd_set 2 scRows.nd (pd_eqD (pd_lstRg rfl mL mR (pd_var 0) ⟨h0, by omega⟩) (by rw [rngD_Z]))) ?_
    refine pbd_cons (psd_set 3 scRows.nd (pd_lstO (padd_cons (pd_var 2) padd_nil))) ?_
    refine pbd_cons (psd_forF [4, 5] ts turnD (rngZ n, [rngZ n]) rowStep (fun s => rwSt n ts s.1 ow'.length none none none) (fun s t => rwSt n ts s.1 ow'.length (some (.d (.int (t.1 : Int)))) (some (.d (.int (t.2 : Int)))) none) (fun s => ow' ++ [.l (s.2.map lstVI)]) PassesOwn.never rfl (pid_list (pd_var 1)) ⟨rfl, fun i r h => h⟩ rfl (fun l t r hl => ?_) (fun l t r hl => ?_)) ?_
    · exact pgd_tup rfl (pgsd_cons (pgd_name 4 scRows.nd) (pgsd_cons (pgd_name 5 scRows.nd) pgsd_nil))
    · rw [rows_fold0]
      have hL : (l.foldl turnR (rngZ n)).length ≤ 100 := by rw [turnsR_len]; exact hlen
      have hN : (rowsZ (rngZ n) l).length ≤ 1001 := by
        unfold rowsZ
        rw [List.length_map, List.length_range]
        have := congrArg List.length hl
        rw [List.length_append, List.length_cons] at this
        omega
      generalize l.foldl turnR (rngZ n) = row at hL
      generalize rowsZ (rngZ n) l = rows at hN
      have hp : cutD (row.map D.int) (some (t.1 : Int)) (some ((t.1 : Int) + (t.2 : Int))) = ((row.drop t.1).take t.2).map D.int := cut_mid _ _ _
      refine pbd_frz2B (ow1 := ow' ++ [.l (rows.map lstVI)]) (psd_set 6 scRows.nd (pd_slO (pd_lstW (pd_var 2)) (pod_some (pd_var 4)) (pod_some (pd_add (pd_var 4) (pd_var 5))))) (psd_expr (pd_ow (pd_reverse (pd_var 6) app_get) set_last)) rfl .v ?_
      rw [hp, ← List.map_reverse]
      have eU : unD (ow' ++ [OB.l (rows.map lstVI)]).length (D.lstV (((row.drop t.1).take t.2).reverse.map D.int)) ((rwSt n ts row ow'.length (some (.d (.int (t.1 : Int)))) (some (.d (.int (t.2 : Int)))) none).set 6 (some (.own (ow' ++ [OB.l (rows.map lstVI)]).length))) = rwSt n ts row ow'.length (some (.d (.int (t.1 : Int)))) (some (.d (.int (t.2 : Int)))) (some (.d (lstVI ((row.drop t.1).take t.2).reverse))) := by
        show [_, _, _, (if ow'.length = (ow' ++ [OB.l (rows.map lstVI)]).length then _ else _), _, _, (if _ = _ then _ else _)] = _
        rw [if_neg (by rw [List.length_append]; simp), if_pos rfl]
        rfl
      rw [eU]
      refine pbd_weak (st1 := rwSt n ts (turnR row t) ow'.length (some (.d (.int (t.1 : Int)))) (some (.d (.int (t.2 : Int)))) (some (.d (lstVI ((row.drop t.1).take t.2).reverse)))) (pbd_cons (psd_set 2 scRows.nd (pd_eqD (pd_catV (pd_catV (pd_slV (pd_lstW (pd_var 2)) pod_none (pod_some (pd_var 4))) (pd_var 6) ?_) (pd_slV (pd_lstW (pd_var 2)) (pod_some (pd_add (pd_var 4) (pd_var 5))) pod_none) ?_) ?_)) (pbd_cons (psd_expr (pd_ow (pd_append (pd_var 3) (pd_var 2) ⟨_, app_get⟩ app_get ?_) ?_)) pbd_nil)) rfl (by (intro i r h; rcases i with _ | _ | _ | _ | _ | _ | _ | i <;> first | exact h | cases h))
      · rw [cut_pre, List.length_map, List.length_map, List.length_take, List.length_reverse, List.length_take, List.length_drop]; omega
      · rw [cut_pre, show (t.1 : Int) + (t.2 : Int) = ((t.1 + t.2 : Nat) : Int) by omega, cut_suf, List.length_append, List.length_map, List.length_map, List.length_map, List.length_take, List.length_reverse, List.length_take, List.length_drop, List.length_drop]; omega
      · rw [cut_pre, show (t.1 : Int) + (t.2 : Int) = ((t.1 + t.2 : Nat) : Int) by omega, cut_suf]
        unfold turnR lstVI
        rw [List.map_append, List.map_append]
      · rw [List.length_map]; omega
      · rw [set_last]
        show _ = ow' ++ [OB.l ((rows ++ [turnR row t]).map lstVI)]
        rw [List.map_append]
        rfl
    · rw [rows_fold0]
      exact pbd_last (psd_ret (pd_var 3))
end
end Bl
set_option Elab.async false
set_option linter.all false
set_option maxRecDepth 100000
set_option maxHeartbeats 4000000
namespace Bl
open PySem PySem.Spec PyProof.Rows L2
/-! ### tables by lists of ints -/
abbrev Tab := List (List Int × Int)
def putI (l : Tab) (k : List Int) (v : Int) : Tab := if (l.any fun p => decide (p.1 = k)) = true then l.map (fun p => if p.1 = k then (p.1, v) else p) else l ++ [(k, v)]
def lookI (l : Tab) (k : List Int) : Option Int := (l.find? fun p => decide (p.1 = k)).map (·.2)
theorem key_eq (a b : List Int) : decide (keyI a = keyI b) = decide (a = b) := by
  by_cases h : a = b
  · subst h; simp
  · rw [decide_eq_false h, decide_eq_false fun z => h (keyI_inj z)]
theorem tabI_any (k : List Int) (l : Tab) : ((tabI l).any fun kv => decide (kv.1 = keyI k)) = l.any fun p => decide (p.1 = k) := by
  unfold tabI
  rw [List.any_map]
  congr 1
  funext p
  exact key_eq _ _
theorem tabI_put (l : Tab) (k : List Int) (v : Int) : putT (tabI l) (k.map Sum.inl) (.int v) = tabI (putI l k v) := by
  unfold putT putI
  have e : ((tabI l).any fun kv => decide (kv.1 = k.map Sum.inl)) = l.any fun p => decide (p.1 = k) := tabI_any k l
  rw [e]
  split
  · unfold tabI
    rw [List.map_map, List.map_map]
    refine List.map_congr_left fun p _ => ?_
    show (if keyI p.1 = keyI k then (keyI p.1, D.int v) else (keyI p.1, D.int p.2)) = _
    by_cases h : p.1 = k
    · rw [if_pos (congrArg keyI h)]
      show _ = (keyI (if p.1 = k then (p.1, v) else p).1, D.int (if p.1 = k then (p.1, v) else p).2)
      rw [if_pos h]
    · rw [if_neg fun z => h (keyI_inj z)]
      show _ = (keyI (if p.1 = k then (p.1, v) else p).1, D.int (if p.1 = k then (p.1, v) else p).2)
      rw [if_neg h]
  · unfold tabI
    rw [List.map_append]
    rfl
theorem lookT_tab (k : List Int) : ∀ l : Tab, lookT (tabI l) k = (lookI l k).map D.int
  | [] => rfl
  | p :: l => by
    have ih := lookT_tab k l
    unfold lookT lookI tabI at *
    rw [List.map_cons, List.find?_cons, List.find?_cons]
    have e : decide (keyI p.1 = k.map Sum.inl) = decide (p.1 = k) := key_eq _ _
    show Option.map Prod.snd (match decide (keyI p.1 = k.map Sum.inl) with | true => some (keyI p.1, D.int p.2) | false => _) = _
    rw [e]
    cases decide (p.1 = k) with
    | true => rfl
    | false => exact ih
theorem lookI_some {l : Tab} {k : List Int} {v : Int} (h : lookI l k = some v) : lookT (tabI l) k = some (.int v) := by rw [lookT_tab, h]; rfl
theorem lookI_nil (k : List Int) : lookI [] k = none := rfl
theorem lookI_cons (p : List Int × Int) (l : Tab) (k : List Int) : lookI (p :: l) k = if p.1 = k then some p.2 else lookI l k := by
  unfold lookI
  rw [List.find?_cons]
  by_cases h : p.1 = k
  · rw [decide_eq_true h, if_pos h]; rfl
  · rw [decide_eq_false h, if_neg h]
theorem lookI_any (k : List Int) : ∀ l : Tab, (l.any fun p => decide (p.1 = k)) = (lookI l k).isSome
  | [] => rfl
  | p :: l => by
    rw [List.any_cons, lookI_cons, lookI_any k l]
    by_cases h : p.1 = k
    · rw [decide_eq_true h, if_pos h]; rfl
    · rw [decide_eq_false h, if_neg h]; rfl
theorem lookI_map (k j : List Int) (v : Int) : ∀ l : Tab, lookI (l.map fun p => if p.1 = k then (p.1, v) else p) j = (lookI l j).map fun x => if j = k then v else x
  | [] => rfl
  | p :: l => by
    rw [List.map_cons, lookI_cons, lookI_cons, lookI_map k j v l]
    by_cases h : p.1 = k
    · rw [if_pos h]
      by_cases e : p.1 = j
      · rw [if_pos e, if_pos e]
        show some v = some (if j = k then v else p.2)
        rw [if_pos (e.symm.trans h)]
      · rw [if_neg e, if_neg e]
    · rw [if_neg h]
      by_cases e : p.1 = j
      · rw [if_pos e, if_pos e]
        show some p.2 = some (if j = k then v else p.2)
        rw [if_neg fun z => h (e.trans z)]
      · rw [if_neg e, if_neg e]
theorem lookI_app (k j : List Int) (v : Int) : ∀ l : Tab, lookI l k = none → lookI (l ++ [(k, v)]) j = if j = k then some v else lookI l j
  | [], _ => by
    rw [List.nil_append, lookI_cons]
    by_cases h : k = j
    · rw [if_pos h, if_pos h.symm]
    · rw [if_neg h, if_neg fun z => h z.symm]
  | p :: l, hn => by
    rw [lookI_cons] at hn
    have hk : ¬ p.1 = k := fun z => by rw [if_pos z] at hn; cases hn
    rw [if_neg hk] at hn
    rw [List.cons_append, lookI_cons, lookI_cons, lookI_app k j v l hn]
    by_cases e : p.1 = j
    · rw [if_pos e, if_pos e, if_neg fun z => hk (e.trans z)]
    · rw [if_neg e, if_neg e]
theorem lookI_put (l : Tab) (k j : List Int) (v : Int) : lookI (putI l k v) j = if j = k then some v else lookI l j := by
  unfold putI
  rw [lookI_any]
  cases h : lookI l k with
  | some x =>
    show lookI (if true = true then _ else _) j = _
    rw [if_pos rfl, lookI_map]
    by_cases e : j = k
    · rw [if_pos e, e, h]
      show some (if k = k then v else x) = some v
      rw [if_pos rfl]
    · rw [if_neg e]
      cases h2 : lookI l j with
      | none => rfl
      | some y =>
        show some (if j = k then v else y) = some y
        rw [if_neg e]
  | none =>
    show lookI (if false = true then _ else _) j = _
    rw [if_neg (by decide)]
    exact lookI_app k j v l h
theorem putI_len (l : Tab) (k : List Int) (v : Int) : (putI l k v).length ≤ l.length + 1 := by
  unfold putI
  split
  · rw [List.length_map]; omega
  · rw [List.length_append, List.length_singleton]; omega
theorem fold_len {α : Type} (ff : Tab → α → Tab) (c : Nat) (h : ∀ s x, (ff s x).length ≤ s.length + c) : ∀ (l : List α) (s : Tab), (l.foldl ff s).length ≤ s.length + l.length * c
  | [], s => by simp
  | x :: l, s => by
    have h1 := fold_len ff c h l (ff s x)
    have h2 := h s x
    rw [List.foldl_cons, List.length_cons, Nat.succ_mul]
    omega
/-! ### the times of the pairs -/
def blk (r0 : List Int) (ts : List Trn) (i : Nat) : List Int := ((((ts.take i).foldl turnR r0).drop (ts.getD i (0, 0)).1).take (ts.getD i (0, 0)).2)
theorem blk_len (r0 : List Int) (ts : List Trn) (i : Nat) : (blk r0 ts i).length ≤ r0.length := by
  unfold blk
  rw [List.length_take, List.length_drop, turnsR_len]
  omega
def tmB (v a : Int) (s : Tab) (b : Int) : Tab := if a = b then s else putI s [a, b] v
def tmA (v : Int) (l : List Int) (s : Tab) (a : Int) : Tab := l.foldl (tmB v a) s
def tmT (r0 : List Int) (ts : List Trn) (s : Tab) (i : Nat) : Tab := (blk r0 ts i).foldl (tmA (0 + (i : Int)) (blk r0 ts i)) s
def timesZ (r0 : List Int) (ts : List Trn) : Tab := (List.range ts.length).foldl (tmT r0 ts) []
theorem tmB_len (v a : Int) (s : Tab) (b : Int) : (tmB v a s b).length ≤ s.length + 1 := by
  unfold tmB
  split
  · omega
  · exact putI_len _ _ _
theorem tmA_len (v : Int) (l : List Int) (s : Tab) (a : Int) : (tmA v l s a).length ≤ s.length + l.length := by
  have := fold_len (tmB v a) 1 (tmB_len v a) l s
  unfold tmA
  omega
theorem tmT_len (r0 : List Int) (ts : List Trn) (h : r0.length ≤ 8) (s : Tab) (i : Nat) : (tmT r0 ts s i).length ≤ s.length + 64 := by
  have h1 := blk_len r0 ts i
  have := fold_len (tmA (0 + (i : Int)) (blk r0 ts i)) 8 (fun s x => Nat.le_trans (tmA_len _ _ s x) (by omega)) (blk r0 ts i) s
  unfold tmT
  have h2 : (blk r0 ts i).length * 8 ≤ 8 * 8 := Nat.mul_le_mul_right 8 (by omega)
  omega
section
variable {P : Program} {w : World} {K : PySem.W.Frag} {mg : Str → Option Value} {base : Heap} {f : Addr} {fd : FuncData} {k : Nat} {C : Addr}
abbrev sTimes : Stmt := topS 41
theorem scTimes : FnScope ["_law_size_here", "_law_turns_here", "_law_rows_here", "_law_times_here", "_law_at", "_law_p", "_law_lines", "_law_a", "_law_b"] ["_law_size_here", "_law_turns_here"] (defScope sTimes) := ⟨rfl, rfl, rfl, by decide +kernel, rfl, by decide +kernel, by decide +kernel⟩
def gTimes : GG := fun rs ow r ow' => ∃ (n : Int) (ts : List Trn), rs = [.d (.int n), .d (.lst (ts.map turnD))] ∧ 0 ≤ n ∧ n ≤ 8 ∧ ts.length ≤ 100 ∧ r = .d (.dT (tabI (timesZ (rngZ n) ts))) ∧ ow' = ow
abbrev tmSt (n : Int) (ts : List Trn) (k : Nat) (at_ p lines a b : Option R) : Sta := [some (.d (.int n)), some (.d (.lst (ts.map turnD))), some (.d (.lst ((rowsZ (rngZ n) ts).map lstVI))), some (.own k), at_, p, lines, a, b]
theorem at_nat {α : Type} {l : List α} {i : Nat} {x : α} (h : l[i]? = some x) : atI l (0 + (i : Int)) = some x := by
  obtain ⟨h1, h2⟩ := List.getElem?_eq_some_iff.mp h
  unfold atI ixN
  rw [if_pos (by omega), if_pos (by omega)]
  show l[(0 + (i : Int)).toNat]? = _
  rw [show (0 + (i : Int)).toNat = i by omega]
  exact h
theorem ok_times (F : Fun K "_law_times" "_law_times" sTimes f fd) (C1 : Fg P w K mg base "_law_rows" k ["_law_size_here", "_law_turns_here"] gRows) (mN : mg "len" = none) (mR : mg "range" = none) : FnOk P w K mg base CX0 (k + 1) f fd ["_law_size_here", "_law_turns_here"] (spF K gTimes) := by
  refine okF F scTimes (fun rs ow r ow' h => ?_) (fun cdv A outer s H E hr rs ow r ow' h => ?_)
  · obtain ⟨n, ts, rfl, _⟩ := h
    rfl
  · obtain ⟨n, ts, rfl, h0, h1, h2, rfl, rfl⟩ := h
    refine pbd_frzRT ?_ rfl
    have hlen : (rngZ n).length ≤ 8 := by rw [rngZ_len]; omega
    refine pbd_cons (psd_set 2 scTimes.nd (pd_cg C1 hr (Nat.le_refl _) (padd_cons (pd_var 0) (padd_cons (pd_var 1) padd_nil)) ⟨n, ts, rfl, h0, by omega, by omega, rfl, rfl⟩)) ?_
    refine pbd_cons (psd_set 3 scTimes.nd pd_newT) ?_
    refine pbd_cons (psd_forF [4] (List.range ts.length) (fun (i : Nat) => D.int (0 + (i : Int))) [] (tmT (rngZ n) ts) (fun _ => tmSt n ts ow'.length none none none none none) (fun _ i => tmSt n ts ow'.length (some (.d (.int (0 + (i : Int))))) none none none none) (fun s => ow' ++ [.t (tabI s)]) PassesOwn.never rfl
      (pid_eq (pid_range1 mR (padd_cons (pd_lenL mN (padd_cons (pd_var 1) padd_nil)) padd_nil) (by rw [List.length_map]; omega)) (by rw [List.length_map]; rfl)) ⟨rfl, fun i r h => h⟩ rfl (fun l t r hl => pgd_name 4 scTimes.nd) (fun l i r hl => ?_)) ?_
    · have hi : i < ts.length := by
        have : i ∈ List.range ts.length := by rw [hl]; simp
        exact List.mem_range.mp this
      have hli : l.length ≤ 100 := by
        have := congrArg List.length hl
        rw [List.length_range, List.length_append, List.length_cons] at this
        omega
      have hsl := fold_len (tmT (rngZ n) ts) 64 (tmT_len (rngZ n) ts hlen) l []
      rw [List.length_nil] at hsl
      have hsl2 : (l.foldl (tmT (rngZ n) ts) []).length ≤ 6400 := by
        have : l.length * 64 ≤ 100 * 64 := Nat.mul_le_mul_right 64 hli
        omega
      have ht : ts[i]? = some (ts.getD i (0, 0)) := by
        rw [List.getD_eq_getElem?_getD, List.getElem?_eq_getElem hi]; rfl
      have hat1 : atI (ts.map turnD) (0 + (i : Int)) = some (turnD (ts.getD i (0, 0))) := at_nat (by rw [List.getElem?_map, ht]; rfl)
      have hat2 : atI ((rowsZ (rngZ n) ts).map lstVI) (0 + (i : Int)) = some (lstVI ((ts.take i).foldl turnR (rngZ n))) := at_nat (by rw [List.getElem?_map, rowsZ_get _ _ _ (by omega)]; rfl)
      generalize l.foldl (tmT (rngZ n) ts) [] = s0 at hsl2
      have hbl := blk_len (rngZ n) ts i
      unfold tmT
      generalize hB : blk (rngZ n) ts i = B at hbl
      unfold blk at hB
      generalize ts.getD i (0, 0) = t at *
      refine pbd_cons (psd_set 5 scTimes.nd (pd_ixT (pd_ixL (pd_var 1) (pd_var 4) hat1) pd_int (d := .int (t.1 : Int)) rfl)) ?_
      refine pbd_cons (psd_set 6 scTimes.nd (pd_eqD (pd_slL (pd_lstW (pd_ixL (pd_var 2) (pd_var 4) hat2)) (pod_some (pd_var 5)) (pod_some (pd_add (pd_var 5) (pd_ixT (pd_ixL (pd_var 1) (pd_var 4) hat1) pd_int (d := .int (t.2 : Int)) rfl)))) (by rw [cut_mid, hB]))) ?_
      refine pbd_weak (st1 := tmSt n ts ow'.length (some (.d (.int (0 + (i : Int))))) (some (.d (.int (t.1 : Int)))) (some (.d (.lst (B.map D.int)))) none none) (pbd_cons (psd_forF [7] B D.int s0 (tmA (0 + (i : Int)) B) (fun _ => tmSt n ts ow'.length (some (.d (.int (0 + (i : Int))))) (some (.d (.int (t.1 : Int)))) (some (.d (.lst (B.map D.int)))) none none)
        (fun _ a => tmSt n ts ow'.length (some (.d (.int (0 + (i : Int))))) (some (.d (.int (t.1 : Int)))) (some (.d (.lst (B.map D.int)))) (some (.d (.int a))) none) (fun s => ow' ++ [.t (tabI s)]) PassesOwn.never rfl (pid_list (pd_var 6)) ⟨rfl, fun i r h => h⟩ rfl (fun l a r hl => pgd_name 7 scTimes.nd) (fun l1 a r1 hl1 => ?_)) pbd_nil) rfl (by (intro i r h; rcases i with _ | _ | _ | _ | _ | _ | _ | _ | _ | i <;> first | exact h | cases h))
      have hA1 := fold_len (tmA (0 + (i : Int)) B) 8 (fun s x => Nat.le_trans (tmA_len _ _ s x) (by omega)) l1 s0
      have hl1' : l1.length ≤ 8 := by
        have := congrArg List.length hl1
        rw [List.length_append, List.length_cons] at this
        omega
      generalize l1.foldl (tmA (0 + (i : Int)) B) s0 = s1 at hA1
      unfold tmA
      refine pbd_weak (st1 := tmSt n ts ow'.length (some (.d (.int (0 + (i : Int))))) (some (.d (.int (t.1 : Int)))) (some (.d (.lst (B.map D.int)))) (some (.d (.int a))) none) (pbd_cons (psd_forF [8] B D.int s1 (tmB (0 + (i : Int)) a) (fun _ => tmSt n ts ow'.length (some (.d (.int (0 + (i : Int))))) (some (.d (.int (t.1 : Int)))) (some (.d (.lst (B.map D.int)))) (some (.d (.int a))) none)
        (fun _ b => tmSt n ts ow'.length (some (.d (.int (0 + (i : Int))))) (some (.d (.int (t.1 : Int)))) (some (.d (.lst (B.map D.int)))) (some (.d (.int a))) (some (.d (.int b)))) (fun s => ow' ++ [.t (tabI s)]) PassesOwn.never rfl (pid_list (pd_var 6)) ⟨rfl, fun i r h => h⟩ rfl (fun l a r hl => pgd_name 8 scTimes.nd) (fun l2 b r2 hl2 => ?_)) pbd_nil) rfl (by (intro i r h; rcases i with _ | _ | _ | _ | _ | _ | _ | _ | _ | i <;> first | exact h | cases h))
      have hB1 := fold_len (tmB (0 + (i : Int)) a) 1 (tmB_len _ _) l2 s1
      have hl2' : l2.length ≤ 8 := by
        have := congrArg List.length hl2
        rw [List.length_append, List.length_cons] at this
        omega
      generalize l2.foldl (tmB (0 + (i : Int)) a) s1 = s2 at hB1
      unfold tmB
      refine pbd_weak (st1 := tmSt n ts ow'.length (some (.d (.int (0 + (i : Int))))) (some (.d (.int (t.1 : Int)))) (some (.d (.lst (B.map D.int)))) (some (.d (.int a))) (some (.d (.int b)))) (pbd_cons (psd_if (ptd_ne (pd_var 7) (pd_var 8)) (fun hb => ?_) (fun hb => ?_)) pbd_nil) rfl (by (intro i r h; rcases i with _ | _ | _ | _ | _ | _ | _ | _ | _ | i <;> first | exact h | cases h))
      · have hb' : ¬ a = b := by
          rw [iv_eq] at hb
          simpa using hb
        rw [if_neg hb']
        refine pbd_cons (psd_ow (psd_putT (ns := [a, b]) ?_ (pd_var 4) (pd_var 3) (pd_tup (padd_cons (pd_var 7) (padd_cons (pd_var 8) padd_nil))) (k := ow'.length) (gs := tabI s2) ?_ ?_) ?_) pbd_nil
        · exact Nat.lt_of_le_of_lt (Nat.add_le_add_left (by decide) _) hr.units
        · rw [List.getElem?_append_right (Nat.le_refl _), Nat.sub_self]; rfl
        · rw [tabI_len]; omega
        · rw [set_last, tabI_put]
      · have hb' : a = b := by
          rw [iv_eq] at hb
          simpa using hb
        rw [if_pos hb']
        exact pbd_nil
    · exact pbd_last (psd_ret (pd_var 3))
end
end Bl
set_option Elab.async false
set_option linter.all false
set_option maxRecDepth 100000
set_option maxHeartbeats 4000000
namespace Bl
open PySem PySem.Spec PyProof.Rows L2
/-! ### the table of the threes -/
def rgZ (a : Int) (m : Nat) : List Int := (List.range m).map fun (t : Nat) => a + (t : Int)
theorem rgZ_D (a : Int) (m : Nat) : rngD a m = (rgZ a m).map D.int := by unfold rngD rgZ; rw [List.map_map]; rfl
theorem mem_rgZ {a x : Int} {m : Nat} (h : x ∈ rgZ a m) : a ≤ x ∧ x < a + m := by
  obtain ⟨t, ht, rfl⟩ := List.mem_map.mp h
  have := List.mem_range.mp ht
  omega
theorem mem_rngZ {n x : Int} (h : x ∈ rngZ n) : 0 ≤ x ∧ x < n := by
  obtain ⟨t, ht, rfl⟩ := List.mem_map.mp h
  have := List.mem_range.mp ht
  omega
abbrev upr (n i : Int) : List Int := rgZ (i + 1) (n - (i + 1)).toNat
theorem mem_upr {n i x : Int} (h : x ∈ upr n i) : i < x ∧ x < n := by
  have := mem_rgZ h
  omega
def f3 {α : Type} (g : α → List Int → α) (i j : Int) (s : α) (k : Int) : α := g s [i, j, k]
def f2 {α : Type} (n : Int) (g : α → List Int → α) (i : Int) (s : α) (j : Int) : α := (upr n j).foldl (f3 g i j) s
def f1 {α : Type} (n : Int) (g : α → List Int → α) (s : α) (i : Int) : α := (upr n i).foldl (f2 n g i) s
def n3 {α : Type} (n : Int) (g : α → List Int → α) (s : α) : α := (rngZ n).foldl (f1 n g) s
/-- a table by a function of the threes -/
def tabF (n : Int) (f : List Int → Int) : Tab := (sub3 (rngZ n)).map fun q => (q, f q)
theorem n3_fold {α : Type} {n : Int} (h0 : 0 ≤ n) (h : n ≤ 7) (g : α → List Int → α) (s : α) : n3 n g s = (sub3 (rngZ n)).foldl g s := by
  have : n = 0 ∨ n = 1 ∨ n = 2 ∨ n = 3 ∨ n = 4 ∨ n = 5 ∨ n = 6 ∨ n = 7 := by omega
  rcases this with rfl | rfl | rfl | rfl | rfl | rfl | rfl | rfl <;> rfl
theorem lookI_none {l : Tab} {k : List Int} (h : k ∉ l.map (·.1)) : lookI l k = none := by
  have := lookI_any k l
  cases hl : lookI l k with
  | none => rfl
  | some v =>
    rw [hl] at this
    obtain ⟨p, hp, he⟩ := List.any_eq_true.mp this
    exact (h (List.mem_map.mpr ⟨p, hp, of_decide_eq_true he⟩)).elim
theorem putI_new {l : Tab} {k : List Int} {v : Int} (h : k ∉ l.map (·.1)) : putI l k v = l ++ [(k, v)] := by
  unfold putI
  rw [lookI_any, lookI_none h]
  rfl
theorem putI_all (f : List Int → Int) : ∀ (qs : List (List Int)) (l : Tab), (l.map (·.1) ++ qs).Nodup → qs.foldl (fun s q => putI s q (f q)) l = l ++ qs.map fun q => (q, f q)
  | [], l, _ => by simp
  | q :: qs, l, h => by
    have hq : q ∉ l.map (·.1) := fun z => by
      have := (List.nodup_append.mp h).2.2 q z q List.mem_cons_self
      exact this rfl
    rw [List.foldl_cons, putI_new hq, putI_all f qs _ (by rw [List.map_append, List.append_assoc]; exact h), List.append_assoc]
    rfl
theorem sub3_nodup {n : Int} (h0 : 0 ≤ n) (h : n ≤ 7) : (sub3 (rngZ n)).Nodup := by
  have : n = 0 ∨ n = 1 ∨ n = 2 ∨ n = 3 ∨ n = 4 ∨ n = 5 ∨ n = 6 ∨ n = 7 := by omega
  rcases this with rfl | rfl | rfl | rfl | rfl | rfl | rfl | rfl <;> decide +kernel
theorem n3_tab {n : Int} (h0 : 0 ≤ n) (h : n ≤ 7) (f : List Int → Int) : n3 n (fun s q => putI s q (f q)) [] = tabF n f := by
  rw [n3_fold h0 h, putI_all f _ [] (by simpa using sub3_nodup h0 h)]
  rfl
theorem n3_list {n : Int} (h0 : 0 ≤ n) (h : n ≤ 7) (f : List Int → Int) : n3 n (fun s q => s ++ [f q]) [] = (sub3 (rngZ n)).map f := by
  rw [n3_fold h0 h]
  have : ∀ (qs : List (List Int)) (s : List Int), qs.foldl (fun s q => s ++ [f q]) s = s ++ qs.map f := by
    intro qs
    induction qs with
    | nil => intro s; simp
    | cons q qs ih => intro s; rw [List.foldl_cons, ih, List.append_assoc]; rfl
  rw [this]
  rfl
theorem mem_sub3 {n i j k : Int} (h0 : 0 ≤ n) (h : n ≤ 7) (hi : 0 ≤ i) (hij : i < j) (hjk : j < k) (hk : k < n) : [i, j, k] ∈ sub3 (rngZ n) := by
  have : n = 0 ∨ n = 1 ∨ n = 2 ∨ n = 3 ∨ n = 4 ∨ n = 5 ∨ n = 6 ∨ n = 7 := by omega
  obtain ⟨a, rfl⟩ : ∃ a : Nat, i = a := ⟨i.toNat, by omega⟩
  obtain ⟨b, rfl⟩ : ∃ a : Nat, j = a := ⟨j.toNat, by omega⟩
  obtain ⟨c, rfl⟩ : ∃ a : Nat, k = a := ⟨k.toNat, by omega⟩
  have key : ∀ m : Nat, m < 8 → ∀ a : Fin m, ∀ b : Fin m, ∀ c : Fin m, a < b → b < c → [((a.1 : Nat) : Int), ((b.1 : Nat) : Int), ((c.1 : Nat) : Int)] ∈ sub3 (rngZ (m : Int)) := by decide +kernel
  obtain ⟨m, rfl⟩ : ∃ a : Nat, n = a := ⟨n.toNat, by omega⟩
  exact key m (by omega) ⟨a, by omega⟩ ⟨b, by omega⟩ ⟨c, by omega⟩ (by show a < b; omega) (by show b < c; omega)
theorem sub3_form {n : Int} (h0 : 0 ≤ n) (h : n ≤ 7) {q : List Int} (hq : q ∈ sub3 (rngZ n)) : ∃ i j k, q = [i, j, k] ∧ 0 ≤ i ∧ i < j ∧ j < k ∧ k < n := by
  have : n = 0 ∨ n = 1 ∨ n = 2 ∨ n = 3 ∨ n = 4 ∨ n = 5 ∨ n = 6 ∨ n = 7 := by omega
  have key : ∀ q ∈ sub3 (rngZ n), ∃ i j k, q = [i, j, k] ∧ 0 ≤ i ∧ i < j ∧ j < k ∧ k < n := by
    have test : ∀ q ∈ sub3 (rngZ n), (match q with | [i, j, k] => decide (0 ≤ i ∧ i < j ∧ j < k ∧ k < n) | _ => false) = true := by
      rcases this with rfl | rfl | rfl | rfl | rfl | rfl | rfl | rfl <;> decide +kernel
    intro q hq
    have := test q hq
    match q, this with
    | [i, j, k], h => exact ⟨i, j, k, rfl, of_decide_eq_true h⟩
  exact key q hq
theorem lookI_F {n : Int} {f : List Int → Int} {q : List Int} (hq : q ∈ sub3 (rngZ n)) : lookI (tabF n f) q = some (f q) := by
  unfold tabF
  generalize sub3 (rngZ n) = qs at hq
  induction qs with
  | nil => cases hq
  | cons a l ih =>
    rw [List.map_cons, lookI_cons]
    by_cases h : a = q
    · rw [if_pos h, h]
    · rw [if_neg h]
      exact ih ((List.mem_cons.mp hq).resolve_left fun z => h z.symm)
theorem putI_F {n : Int} {f : List Int → Int} {q : List Int} {v : Int} (hq : q ∈ sub3 (rngZ n)) : putI (tabF n f) q v = tabF n (fun p => if p = q then v else f p) := by
  unfold putI
  rw [lookI_any, lookI_F hq]
  show (if true = true then _ else _) = _
  rw [if_pos rfl]
  unfold tabF
  rw [List.map_map]
  refine List.map_congr_left fun p _ => ?_
  show (if p = q then (p, v) else (p, f p)) = (p, if p = q then v else f p)
  split <;> rfl
def sgT (tm : Tab) (q : List Int) : Int :=
  let x := (lookI tm (q.take 2)).getD 0
  let y := (lookI tm (q.drop 1)).getD 0
  if y < x then -1 else if x < y then 1 else 0
theorem sgT_rng (tm : Tab) (q : List Int) : -1 ≤ sgT tm q ∧ sgT tm q ≤ 1 := by
  unfold sgT
  dsimp only
  split
  · omega
  · split <;> omega
theorem room_u {k : Nat} {A : Around} (r : Room k A) : A.units + 1 < cLine := by have := r.un; omega
theorem room_u64 {k : Nat} {A : Around} (r : Room k A) : A.units + 64 < cLine := by have := r.un; omega
section
variable {P : Program} {w : World} {K : PySem.W.Frag} {mg : Str → Option Value} {base : Heap} {f : Addr} {fd : FuncData} {k : Nat} {C : Addr}
abbrev sTable : Stmt := topS 42
theorem scTable : FnScope ["_law_size_here", "_law_turns_here", "_law_times_here", "_law_table_here", "_law_i", "_law_j", "_law_k", "_law_sign"] ["_law_size_here", "_law_turns_here"] (defScope sTable) := ⟨rfl, rfl, rfl, by decide +kernel, rfl, by decide +kernel, by decide +kernel⟩
def Cov (n : Int) (ts : List Trn) : Prop := ∀ a b : Int, 0 ≤ a → a < b → b < n → ∃ v, lookI (timesZ (rngZ n) ts) [a, b] = some v
def gTable : GG := fun rs ow r ow' => ∃ (n : Int) (ts : List Trn), rs = [.d (.int n), .d (.lst (ts.map turnD))] ∧ 0 ≤ n ∧ n ≤ 7 ∧ ts.length ≤ 100 ∧ Cov n ts ∧ r = .own ow.length ∧ ow' = ow ++ [.t (tabI (tabF n (sgT (timesZ (rngZ n) ts))))]
abbrev tbSt (n : Int) (ts : List Trn) (tm : Tab) (kk : Nat) (i j k s : Option R) : Sta := [some (.d (.int n)), some (.d (.lst (ts.map turnD))), some (.d (.dT (tabI tm))), some (.own kk), i, j, k, s]
theorem upr_len (n i : Int) (h0 : 0 ≤ i) (h : n ≤ 7) : (upr n i).length ≤ 7 := by
  unfold upr rgZ
  rw [List.length_map, List.length_range]
  omega
theorem fold_lenM {α : Type} (ff : Tab → α → Tab) (c : Nat) : ∀ (l : List α) (s : Tab), (∀ s x, x ∈ l → (ff s x).length ≤ s.length + c) → (l.foldl ff s).length ≤ s.length + l.length * c
  | [], s, _ => by simp
  | x :: l, s, h => by
    have h1 := fold_lenM ff c l (ff s x) fun s y hy => h s y (List.mem_cons_of_mem _ hy)
    have h2 := h s x List.mem_cons_self
    rw [List.foldl_cons, List.length_cons, Nat.succ_mul]
    omega
theorem pre_mem {α : Type} {as l r : List α} {x : α} (h : as = l ++ x :: r) : x ∈ as ∧ (∀ y ∈ l, y ∈ as) ∧ l.length < as.length := by
  subst h
  refine ⟨by simp, fun y hy => List.mem_append_left _ hy, by rw [List.length_append, List.length_cons]; omega⟩
theorem ok_table (F : Fun K "_law_table" "_law_table" sTable f fd) (C1 : Fg P w K mg base "_law_times" k ["_law_size_here", "_law_turns_here"] gTimes) (mR : mg "range" = none) : FnOk P w K mg base CX0 (k + 1) f fd ["_law_size_here", "_law_turns_here"] (spF K gTable) := by
  refine okF F scTable (fun rs ow r ow' h => ?_) (fun cdv A outer s H E hr rs ow r ow' h => ?_)
  · obtain ⟨n, ts, rfl, _⟩ := h
    rfl
  · obtain ⟨n, ts, rfl, h0, h1, h2, hcov, rfl, rfl⟩ := h
    have hu := room_u hr
    rw [← n3_tab h0 h1]
    refine pbd_cons (psd_set 2 scTable.nd (pd_cg C1 hr (Nat.le_refl _) (padd_cons (pd_var 0) (padd_cons (pd_var 1) padd_nil)) ⟨n, ts, rfl, h0, by omega, by omega, rfl, rfl⟩)) ?_
    refine pbd_cons (psd_set 3 scTable.nd pd_newT) ?_
    unfold n3
    generalize hg : (fun (s : Tab) q => putI s q (sgT (timesZ (rngZ n) ts) q)) = g
    have hput : ∀ s q, g s q = putI s q (sgT (timesZ (rngZ n) ts) q) := fun s q => by rw [← hg]
    unfold Cov at hcov
    generalize htm : timesZ (rngZ n) ts = tm at hcov
    have hD : ∀ (i j : Int) (s : Tab) (x : Int), (f3 g i j s x).length ≤ s.length + 1 := fun i j s x => by
      unfold f3
      rw [hput]
      exact putI_len _ _ _
    have hC : ∀ (i j : Int) (s : Tab), 0 ≤ j → (f2 n g i s j).length ≤ s.length + 7 := fun i j s h => by
      have := fold_len (f3 g i j) 1 (hD i j) (upr n j) s
      have := upr_len n j h h1
      unfold f2
      omega
    have hB : ∀ (i : Int) (s : Tab), 0 ≤ i → (f1 n g s i).length ≤ s.length + 49 := fun i s h => by
      have := fold_lenM (f2 n g i) 7 (upr n i) s fun s j hj => hC i j s (by have := mem_upr hj; omega)
      have := upr_len n i h h1
      unfold f1
      omega
    refine pbd_cons (psd_forF [4] (rngZ n) D.int [] (f1 n g) (fun _ => tbSt n ts tm ow.length none none none none) (fun _ i => tbSt n ts tm ow.length (some (.d (.int i))) none none none) (fun s => ow ++ [.t (tabI s)]) PassesOwn.never rfl
      (pid_eq (pid_range1 mR (padd_cons (pd_var 0) padd_nil) (by omega)) (rngD_Z n)) ⟨rfl, fun i r h => h⟩ rfl (fun l i r hl => pgd_name 4 scTable.nd) (fun l i r hl => ?_)) ?_
    · obtain ⟨hi1, hi2, hi3⟩ := pre_mem hl
      have hi := mem_rngZ hi1
      rw [rngZ_len] at hi3
      have hL := fold_lenM (f1 n g) 49 l [] (fun s x hx => hB x s (mem_rngZ (hi2 x hx)).1)
      rw [List.length_nil] at hL
      generalize List.foldl (f1 n g) [] l = s0 at hL
      refine pbd_weak (st1 := tbSt n ts tm ow.length (some (.d (.int i))) none none none) (pbd_cons (psd_forF [5] (upr n i) D.int s0 (f2 n g i) (fun _ => tbSt n ts tm ow.length (some (.d (.int i))) none none none) (fun _ j => tbSt n ts tm ow.length (some (.d (.int i))) (some (.d (.int j))) none none) (fun s => ow ++ [.t (tabI s)]) PassesOwn.never rfl
        (pid_eq (pid_range2 mR (padd_cons (pd_add (pd_var 4) pd_int) (padd_cons (pd_var 0) padd_nil)) (by omega) (by omega)) (rgZ_D _ _)) ⟨rfl, fun i r h => h⟩ rfl (fun l j r hl => pgd_name 5 scTable.nd) (fun l j r hl => ?_)) pbd_nil) rfl (by (intro i r h; rcases i with _ | _ | _ | _ | _ | _ | _ | _ | i <;> first | exact h | cases h))
      obtain ⟨hj1, hj2, hj3⟩ := pre_mem hl
      have hj := mem_upr hj1
      have hji := upr_len n i hi.1 h1
      have hL2 := fold_lenM (f2 n g i) 7 l s0 (fun s x hx => hC i x s (by have := mem_upr (hj2 x hx); omega))
      generalize List.foldl (f2 n g i) s0 l = s1 at hL2
      refine pbd_weak (st1 := tbSt n ts tm ow.length (some (.d (.int i))) (some (.d (.int j))) none none) (pbd_cons (psd_forF [6] (upr n j) D.int s1 (f3 g i j) (fun _ => tbSt n ts tm ow.length (some (.d (.int i))) (some (.d (.int j))) none none) (fun _ k => tbSt n ts tm ow.length (some (.d (.int i))) (some (.d (.int j))) (some (.d (.int k))) none) (fun s => ow ++ [.t (tabI s)]) PassesOwn.never rfl
        (pid_eq (pid_range2 mR (padd_cons (pd_add (pd_var 5) pd_int) (padd_cons (pd_var 0) padd_nil)) (by omega) (by omega)) (rgZ_D _ _)) ⟨rfl, fun i r h => h⟩ rfl (fun l k r hl => pgd_name 6 scTable.nd) (fun l k r hl => ?_)) pbd_nil) rfl (by (intro i r h; rcases i with _ | _ | _ | _ | _ | _ | _ | _ | i <;> first | exact h | cases h))
      obtain ⟨hk1, hk2, hk3⟩ := pre_mem hl
      have hk := mem_upr hk1
      have hkj := upr_len n j (by omega) h1
      have hL3 := fold_len (f3 g i j) 1 (hD i j) l s1
      generalize List.foldl (f3 g i j) s1 l = s2 at hL3
      obtain ⟨x, hx⟩ := hcov i j hi.1 hj.1 hj.2
      obtain ⟨y, hy⟩ := hcov j k (by omega) hk.1 hk.2
      have esg : sgT tm [i, j, k] = if y < x then -1 else if x < y then 1 else 0 := by
        unfold sgT
        show (let x := (lookI tm [i, j]).getD 0; let y := (lookI tm [j, k]).getD 0; if y < x then (-1 : Int) else if x < y then 1 else 0) = _
        rw [hx, hy]
        rfl
      have e3 : f3 g i j s2 k = putI s2 [i, j, k] (if y < x then -1 else if x < y then 1 else 0) := by
        unfold f3
        rw [hput, htm, esg]
      rw [e3]
      refine pbd_cons (psd_set 7 scTable.nd pd_int) ?_
      refine pbd_cons (psd_if (out := .nx (tbSt n ts tm ow.length (some (.d (.int i))) (some (.d (.int j))) (some (.d (.int k))) (some (.d (.int (if x < y then 1 else 0))))) (ow ++ [.t (tabI s2)])) (ptd_lt (pd_getT (ns := [i, j]) hu (pd_var 2) (pd_tup (padd_cons (pd_var 4) (padd_cons (pd_var 5) padd_nil))) (lookI_some hx)) (pd_getT (ns := [j, k]) hu (pd_var 2) (pd_tup (padd_cons (pd_var 5) (padd_cons (pd_var 6) padd_nil))) (lookI_some hy))) (fun hb => ?_) (fun hb => ?_)) ?_
      · rw [if_pos (of_decide_eq_true hb)]
        exact pbd_cons (psd_set 7 scTable.nd pd_int) pbd_nil
      · rw [if_neg (of_decide_eq_false hb)]
        exact pbd_nil
      refine pbd_cons (psd_if (out := .nx (tbSt n ts tm ow.length (some (.d (.int i))) (some (.d (.int j))) (some (.d (.int k))) (some (.d (.int (if y < x then -1 else if x < y then 1 else 0))))) (ow ++ [.t (tabI s2)])) (ptd_gt (pd_getT (ns := [i, j]) hu (pd_var 2) (pd_tup (padd_cons (pd_var 4) (padd_cons (pd_var 5) padd_nil))) (lookI_some hx)) (pd_getT (ns := [j, k]) hu (pd_var 2) (pd_tup (padd_cons (pd_var 5) (padd_cons (pd_var 6) padd_nil))) (lookI_some hy))) (fun hb => ?_) (fun hb => ?_)) ?_
      · rw [if_pos (of_decide_eq_true hb)]
        exact pbd_cons (psd_set 7 scTable.nd (pd_neg pd_int)) pbd_nil
      · rw [if_neg (of_decide_eq_false hb)]
        exact pbd_nil
      refine pbd_weak (st1 := tbSt n ts tm ow.length (some (.d (.int i))) (some (.d (.int j))) (some (.d (.int k))) (some (.d (.int (if y < x then -1 else if x < y then 1 else 0))))) (pbd_cons (psd_ow (psd_putT (ns := [i, j, k]) hu (pd_var 7) (pd_var 3) (pd_tup (padd_cons (pd_var 4) (padd_cons (pd_var 5) (padd_cons (pd_var 6) padd_nil)))) (k := ow.length) (gs := tabI s2) ?_ ?_) ?_) pbd_nil) rfl (by (intro i r h; rcases i with _ | _ | _ | _ | _ | _ | _ | _ | i <;> first | exact h | cases h))
      · rw [List.getElem?_append_right (Nat.le_refl _), Nat.sub_self]; rfl
      · rw [tabI_len]; omega
      · rw [set_last, tabI_put]
    · exact pbd_last (psd_ret (pd_var 3))
end
end Bl
set_option Elab.async false
set_option linter.all false
set_option maxRecDepth 100000
set_option maxHeartbeats 4000000
namespace Bl
open PySem PySem.Spec PyProof.Rows L2
/-! ### the signs, a table spoilt -/
theorem o_a {ow : List OB} {p t : Nat} {a b x : OB} (h : ow[p]? = some x) (hne : p ≠ t) : ((ow.set p a).set t b)[p]? = some a := by
  rw [List.getElem?_set_ne (fun z => hne z.symm), List.getElem?_set_self (List.getElem?_eq_some_iff.mp h).1]
theorem o_b {ow : List OB} {p t : Nat} {a b x : OB} (h : ow[t]? = some x) : ((ow.set p a).set t b)[t]? = some b := by
  rw [List.getElem?_set_self (by rw [List.length_set]; exact (List.getElem?_eq_some_iff.mp h).1)]
theorem o_sa {ow : List OB} {p t : Nat} {a b c : OB} (hne : p ≠ t) : ((ow.set p a).set t b).set p c = (ow.set p c).set t b := by
  rw [List.set_comm _ _ hne, List.set_set, List.set_comm _ _ hne.symm]
theorem o_sb {ow : List OB} {p t : Nat} {a b c : OB} : ((ow.set p a).set t b).set t c = (ow.set p a).set t c := List.set_set ..
theorem tabF_len (n : Int) (f : List Int → Int) : (tabF n f).length = (sub3 (rngZ n)).length := by unfold tabF; rw [List.length_map]
theorem sub3_len7 {n : Int} (h0 : 0 ≤ n) (h : n ≤ 7) : (sub3 (rngZ n)).length ≤ 35 := by
  have : n = 0 ∨ n = 1 ∨ n = 2 ∨ n = 3 ∨ n = 4 ∨ n = 5 ∨ n = 6 ∨ n = 7 := by omega
  rcases this with rfl | rfl | rfl | rfl | rfl | rfl | rfl | rfl <;> decide +kernel
abbrev Spo := List Int × (List Int → Int)
def spQ (n : Int) (ps : List Int) : List Int := (sub3 (rngZ n)).getD (nextV ps ((sub3 (rngZ n)).length : Int)).toNat []
def spStep (n : Int) (s : Spo) (_ : Int) : Spo :=
  if (sub3 (rngZ n)).length = 0 then s else
    (s.1.dropLast.dropLast, fun p => if p = spQ n s.1 then (s.2 (spQ n s.1) + 2 + nextV s.1.dropLast 2) % 3 - 1 else s.2 p)
def spoilZ (n : Int) (ps : List Int) (f : List Int → Int) : Spo := (rngZ (nextV ps 3)).foldl (spStep n) (ps.dropLast, f)
def SgnF (f : List Int → Int) : Prop := ∀ q, -1 ≤ f q ∧ f q ≤ 1
theorem spStep_sgn (n a : Int) (s : Spo) (h : SgnF s.2) : SgnF (spStep n s a).2 := by
  unfold spStep
  split
  · exact h
  · intro q
    dsimp only
    split
    · have h1 := Int.emod_nonneg (s.2 (spQ n s.1) + 2 + nextV s.1.dropLast 2) (show (3 : Int) ≠ 0 by decide)
      have h2 := Int.emod_lt_of_pos (s.2 (spQ n s.1) + 2 + nextV s.1.dropLast 2) (show (0 : Int) < 3 by decide)
      omega
    · exact h q
theorem spFold_sgn (n : Int) : ∀ (l : List Int) (s : Spo), SgnF s.2 → SgnF (l.foldl (spStep n) s).2
  | [], s, h => h
  | a :: l, s, h => spFold_sgn n l _ (spStep_sgn n a s h)
theorem spoil_sgn (n : Int) (ps : List Int) {f : List Int → Int} (h : SgnF f) : SgnF (spoilZ n ps f).2 := spFold_sgn n _ _ h
section
variable {P : Program} {w : World} {K : PySem.W.Frag} {mg : Str → Option Value} {base : Heap} {f : Addr} {fd : FuncData} {k : Nat} {C : Addr}
abbrev sSigns : Stmt := topS 43
theorem scSigns : FnScope ["_law_size_here", "_law_table_here", "_law_signs_here", "_law_i", "_law_j", "_law_k"] ["_law_size_here", "_law_table_here"] (defScope sSigns) := ⟨rfl, rfl, rfl, by decide +kernel, rfl, by decide +kernel, by decide +kernel⟩
def gSigns : GG := fun rs ow r ow' => ∃ (n : Int) (F : List Int → Int), rs = [.d (.int n), .d (.dT (tabI (tabF n F)))] ∧ 0 ≤ n ∧ n ≤ 7 ∧ r = .d (.lst (((sub3 (rngZ n)).map F).map D.int)) ∧ ow' = ow
abbrev sgSt (n : Int) (F : List Int → Int) (kk : Nat) (i j k : Option R) : Sta := [some (.d (.int n)), some (.d (.dT (tabI (tabF n F)))), some (.own kk), i, j, k]
theorem ok_signs (F : Fun K "_law_signs" "_law_signs" sSigns f fd) (mR : mg "range" = none) : FnOk P w K mg base CX0 (k + 1) f fd ["_law_size_here", "_law_table_here"] (spF K gSigns) := by
  refine okF F scSigns (fun rs ow r ow' h => ?_) (fun cdv A outer s H E hr rs ow r ow' h => ?_)
  · obtain ⟨n, F, rfl, _⟩ := h
    rfl
  · obtain ⟨n, F, rfl, h0, h1, rfl, rfl⟩ := h
    have hu := room_u hr
    refine pbd_frzR ?_ rfl
    rw [← n3_list h0 h1]
    refine pbd_cons (psd_set 2 scSigns.nd (pd_lstO padd_nil)) ?_
    unfold n3
    generalize hg : (fun (s : List Int) q => s ++ [F q]) = g
    have happ : ∀ s q, g s q = s ++ [F q] := fun s q => by rw [← hg]
    have hD : ∀ (i j : Int) (s : List Int) (x : Int), (f3 g i j s x).length = s.length + 1 := fun i j s x => by
      unfold f3
      rw [happ, List.length_append]
      rfl
    have lenG : ∀ {β : Type} (ff : List Int → β → List Int) (c : Nat) (l : List β) (s : List Int), (∀ s x, x ∈ l → (ff s x).length ≤ s.length + c) → (l.foldl ff s).length ≤ s.length + l.length * c := by
      intro β ff c l
      induction l with
      | nil => intro s _; simp
      | cons x l ih =>
        intro s h
        have h1 := ih (ff s x) fun s y hy => h s y (List.mem_cons_of_mem _ hy)
        have h2 := h s x List.mem_cons_self
        rw [List.foldl_cons, List.length_cons, Nat.succ_mul]
        omega
    have hC : ∀ (i j : Int) (s : List Int), 0 ≤ j → (f2 n g i s j).length ≤ s.length + 7 := fun i j s h => by
      have := lenG (f3 g i j) 1 (upr n j) s fun s x _ => Nat.le_of_eq (hD i j s x)
      have := upr_len n j h h1
      unfold f2
      omega
    have hB : ∀ (i : Int) (s : List Int), 0 ≤ i → (f1 n g s i).length ≤ s.length + 49 := fun i s h => by
      have := lenG (f2 n g i) 7 (upr n i) s fun s j hj => hC i j s (by have := mem_upr hj; omega)
      have := upr_len n i h h1
      unfold f1
      omega
    refine pbd_cons (psd_forF [3] (rngZ n) D.int [] (f1 n g) (fun _ => sgSt n F ow'.length none none none) (fun _ i => sgSt n F ow'.length (some (.d (.int i))) none none) (fun s => ow' ++ [.l (s.map D.int)]) PassesOwn.never rfl
      (pid_eq (pid_range1 mR (padd_cons (pd_var 0) padd_nil) (by omega)) (rngD_Z n)) ⟨rfl, fun i r h => h⟩ rfl (fun l i r hl => pgd_name 3 scSigns.nd) (fun l i r hl => ?_)) ?_
    · obtain ⟨hi1, hi2, hi3⟩ := pre_mem hl
      have hi := mem_rngZ hi1
      rw [rngZ_len] at hi3
      have hL := lenG (f1 n g) 49 l [] (fun s x hx => hB x s (mem_rngZ (hi2 x hx)).1)
      rw [List.length_nil] at hL
      generalize List.foldl (f1 n g) [] l = s0 at hL
      refine pbd_weak (st1 := sgSt n F ow'.length (some (.d (.int i))) none none) (pbd_cons (psd_forF [4] (upr n i) D.int s0 (f2 n g i) (fun _ => sgSt n F ow'.length (some (.d (.int i))) none none) (fun _ j => sgSt n F ow'.length (some (.d (.int i))) (some (.d (.int j))) none) (fun s => ow' ++ [.l (s.map D.int)]) PassesOwn.never rfl
        (pid_eq (pid_range2 mR (padd_cons (pd_add (pd_var 3) pd_int) (padd_cons (pd_var 0) padd_nil)) (by omega) (by omega)) (rgZ_D _ _)) ⟨rfl, fun i r h => h⟩ rfl (fun l j r hl => pgd_name 4 scSigns.nd) (fun l j r hl => ?_)) pbd_nil) rfl (by (intro i r h; rcases i with _ | _ | _ | _ | _ | _ | i <;> first | exact h | cases h))
      obtain ⟨hj1, hj2, hj3⟩ := pre_mem hl
      have hj := mem_upr hj1
      have hji := upr_len n i hi.1 h1
      have hL2 := lenG (f2 n g i) 7 l s0 (fun s x hx => hC i x s (by have := mem_upr (hj2 x hx); omega))
      generalize List.foldl (f2 n g i) s0 l = s1 at hL2
      refine pbd_weak (st1 := sgSt n F ow'.length (some (.d (.int i))) (some (.d (.int j))) none) (pbd_cons (psd_forF [5] (upr n j) D.int s1 (f3 g i j) (fun _ => sgSt n F ow'.length (some (.d (.int i))) (some (.d (.int j))) none) (fun _ k => sgSt n F ow'.length (some (.d (.int i))) (some (.d (.int j))) (some (.d (.int k)))) (fun s => ow' ++ [.l (s.map D.int)]) PassesOwn.never rfl
        (pid_eq (pid_range2 mR (padd_cons (pd_add (pd_var 4) pd_int) (padd_cons (pd_var 0) padd_nil)) (by omega) (by omega)) (rgZ_D _ _)) ⟨rfl, fun i r h => h⟩ rfl (fun l k r hl => pgd_name 5 scSigns.nd) (fun l k r hl => ?_)) pbd_nil) rfl (by (intro i r h; rcases i with _ | _ | _ | _ | _ | _ | i <;> first | exact h | cases h))
      obtain ⟨hk1, hk2, hk3⟩ := pre_mem hl
      have hk := mem_upr hk1
      have hkj := upr_len n j (by omega) h1
      have hL3 := lenG (f3 g i j) 1 l s1 fun s x _ => Nat.le_of_eq (hD i j s x)
      generalize List.foldl (f3 g i j) s1 l = s2 at hL3
      have e3 : f3 g i j s2 k = s2 ++ [F [i, j, k]] := by
        unfold f3
        rw [happ]
      rw [e3]
      have hmem := mem_sub3 h0 h1 hi.1 hj.1 hk.1 hk.2
      refine pbd_weak (st1 := sgSt n F ow'.length (some (.d (.int i))) (some (.d (.int j))) (some (.d (.int k)))) (pbd_cons (psd_expr (pd_ow (pd_append (pd_var 2) (pd_getT (ns := [i, j, k]) hu (pd_var 1) (pd_tup (padd_cons (pd_var 3) (padd_cons (pd_var 4) (padd_cons (pd_var 5) padd_nil)))) (lookI_some (lookI_F hmem))) ⟨_, app_get⟩ app_get ?_) ?_)) pbd_nil) rfl (by (intro i r h; rcases i with _ | _ | _ | _ | _ | _ | i <;> first | exact h | cases h))
      · rw [List.length_map]; omega
      · rw [set_last, List.map_append]
        rfl
    · exact pbd_last (psd_ret (pd_var 2))
abbrev sSpoil : Stmt := topS 45
theorem scSpoil : FnScope ["_law_pool_here", "_law_size_here", "_law_table_here", "_law_threes", "_law_turn", "_law_three"] ["_law_pool_here", "_law_size_here", "_law_table_here"] (defScope sSpoil) := ⟨rfl, rfl, rfl, by decide +kernel, rfl, by decide +kernel, by decide +kernel⟩
def gSpoil : GG := fun rs ow r ow' => ∃ (kp kt : Nat) (n : Int) (ps : List Int) (F : List Int → Int), rs = [.own kp, .d (.int n), .own kt] ∧ kp ≠ kt ∧ ow[kp]? = some (.l (ps.map D.int)) ∧ ow[kt]? = some (.t (tabI (tabF n F))) ∧ 0 ≤ n ∧ n ≤ 7 ∧ r = .d .non ∧
  ow' = (ow.set kp (.l ((spoilZ n ps F).1.map D.int))).set kt (.t (tabI (tabF n (spoilZ n ps F).2)))
abbrev spSt (kp kt : Nat) (n : Int) (t q : Option R) : Sta := [some (.own kp), some (.d (.int n)), some (.own kt), some (.d (.lst ((sub3 (rngZ n)).map tupI))), t, q]
theorem ok_spoil (F : Fun K "_law_spoil" "_law_spoil" sSpoil f fd) (C1 : Fg P w K mg base "_law_next" k ["_law_pool_here", "_law_many"] gNext) (mR : mg "range" = none) (mL : mg "list" = none) (mN : mg "len" = none) (mI : mg "int" = none) : FnOk P w K mg base CX0 (k + 1) f fd ["_law_pool_here", "_law_size_here", "_law_table_here"] (spF K gSpoil) := by
  refine okFN F scSpoil (fun rs ow r ow' h => ?_) (fun cdv A outer s H E hr rs ow r ow' h => ?_)
  · obtain ⟨kp, kt, n, ps, F, rfl, _⟩ := h
    rfl
  · obtain ⟨kp, kt, n, ps, F, rfl, hne, hp, ht, h0, h1, rfl, rfl⟩ := h
    have hu := room_u hr
    have h35 := sub3_len7 h0 h1
    refine ⟨rfl, spSt kp kt n none none, ?_⟩
    refine pbd_cons (psd_set 3 scSpoil.nd (pd_eqD (pd_listT' rfl mL (pd_var 2) ht) (d' := .lst ((sub3 (rngZ n)).map tupI)) (by unfold tabF; rw [List.map_map]; rfl))) ?_
    have hrg := nextV_rng ps (show (0 : Int) < 3 by decide)
    refine pbd_cons (psd_forF [4] (rngZ (nextV ps 3)) D.int (ps.dropLast, F) (spStep n) (fun _ => spSt kp kt n none none) (fun _ i => spSt kp kt n (some (.d (.int i))) none) (fun s => (ow.set kp (.l (s.1.map D.int))).set kt (.t (tabI (tabF n s.2)))) PassesOwn.never rfl
      (pid_eq (pid_range1 mR (padd_cons (pd_cg C1 hr (Nat.le_refl _) (pad_cons (pd_var 0) (padd_cons pd_int padd_nil)) ⟨kp, 3, ps, rfl, hp, by decide, rfl, rfl⟩) padd_nil) (by omega)) (rngD_Z _)) ⟨rfl, fun i r h => h⟩ ?_ (fun l i r hl => pgd_name 4 scSpoil.nd) (fun l i r hl => ?_)) pbd_nil
    · exact set_same (by rw [List.getElem?_set_ne hne]; exact ht)
    · generalize l.foldl (spStep n) (ps.dropLast, F) = s0
      obtain ⟨qs, G⟩ := s0
      unfold spStep
      by_cases hz : (sub3 (rngZ n)).length = 0
      · rw [if_pos hz]
        exact pbd_weak (pbd_skip (ptd_gt (pd_lenL mN (padd_cons (pd_var 3) padd_nil)) pd_int) (by rw [List.length_map, hz]; rfl) pbd_nil) rfl (by (intro i r h; rcases i with _ | _ | _ | _ | _ | _ | i <;> first | exact h | cases h))
      · rw [if_neg hz]
        have hx := nextV_rng qs (show (0 : Int) < ((sub3 (rngZ n)).length : Int) by omega)
        have hlt : (nextV qs ((sub3 (rngZ n)).length : Int)).toNat < (sub3 (rngZ n)).length := by omega
        have hq : spQ n qs ∈ sub3 (rngZ n) := by
          unfold spQ
          rw [List.getD_eq_getElem?_getD, List.getElem?_eq_getElem hlt]
          exact List.getElem_mem hlt
        have hat : atI ((sub3 (rngZ n)).map tupI) (nextV qs ((sub3 (rngZ n)).length : Int)) = some (tupI (spQ n qs)) := by
          unfold atI ixN spQ
          rw [List.length_map, if_pos hx.1, if_pos hx.2]
          show ((sub3 (rngZ n)).map tupI)[(nextV qs _).toNat]? = _
          rw [List.getElem?_map, List.getD_eq_getElem?_getD, List.getElem?_eq_getElem hlt]
          rfl
        refine pbd_weak (st1 := spSt kp kt n (some (.d (.int i))) (some (.d (tupI (spQ n qs))))) (pbd_cons (psd_if (bl := true) (ptd_eqB (ptd_gt (pd_lenL mN (padd_cons (pd_var 3) padd_nil)) pd_int) (by rw [List.length_map]; exact decide_eq_true (by omega))) (fun _ => ?_) (fun z => nomatch z)) pbd_nil) rfl (by (intro i r h; rcases i with _ | _ | _ | _ | _ | _ | i <;> first | exact h | cases h))
        refine pbd_cons (psd_set 5 scSpoil.nd (pd_ixL (pd_var 3) (pd_cg C1 hr (Nat.le_refl _) (pad_cons (pd_var 0) (padd_cons (pd_eqD (pd_lenL mN (padd_cons (pd_var 3) padd_nil)) (by rw [List.length_map])) padd_nil)) ⟨kp, ((sub3 (rngZ n)).length : Int), qs, rfl, o_a hp hne, by omega, rfl, rfl⟩) hat)) ?_
        dsimp only
        rw [o_sa hne]
        refine pbd_cons (psd_ow (psd_putT (ns := spQ n qs) (k := kt) (gs := tabI (tabF n G)) hu (pd_sub (pd_mod (pd_int1 mI (padd_cons (pd_add (pd_add (pd_getO hu (pd_var 2) (pd_var 5) (o_b ht) (lookI_some (lookI_F hq))) pd_int) (pd_cg C1 hr (Nat.le_refl _) (pad_cons (pd_var 0) (padd_cons pd_int padd_nil)) ⟨kp, 2, qs.dropLast, rfl, o_a hp hne, by decide, rfl, rfl⟩)) padd_nil)) pd_int (by decide)) pd_int) (pd_var 2) (pd_var 5) ?_ ?_) ?_) pbd_nil
        · rw [o_sa hne]; exact o_b ht
        · rw [tabI_len, tabF_len]; omega
        · rw [o_sa hne, o_sb, tabI_put, putI_F hq]
end
end Bl
set_option Elab.async false
set_option linter.all false
set_option maxRecDepth 100000
set_option maxHeartbeats 4000000
namespace Bl
open PySem PySem.Spec PyProof.Rows L2
open scoped List
/-! ### pairs that stand in ascending order: they end when all is turned -/
def ascN : List Int → Nat
  | [] => 0
  | a :: l => l.countP (fun b => decide (a < b)) + ascN l
def crsN (x y : List Int) : Nat := (x.map fun a => y.countP fun b => decide (a < b)).sum
theorem ascN_append (x y : List Int) : ascN (x ++ y) = ascN x + ascN y + crsN x y := by
  induction x with
  | nil => simp [ascN, crsN]
  | cons a x ih =>
    rw [List.cons_append]
    show List.countP _ (x ++ y) + ascN (x ++ y) = List.countP _ x + ascN x + ascN y + (List.map _ (a :: x)).sum
    rw [ih, List.countP_append, List.map_cons, List.sum_cons]
    unfold crsN
    omega
theorem crsN_perm_r (x : List Int) {y z : List Int} (h : y.Perm z) : crsN x y = crsN x z := by
  unfold crsN
  congr 1
  refine List.map_congr_left fun a _ => h.countP_eq _
theorem crsN_perm_l {x z : List Int} (y : List Int) (h : x.Perm z) : crsN x y = crsN z y := by
  unfold crsN
  exact (h.map _).sum_nat
theorem ascN_swap (x p y : List Int) : ascN (x ++ p.reverse ++ y) + ascN p = ascN (x ++ p ++ y) + ascN p.reverse := by
  rw [List.append_assoc, List.append_assoc, ascN_append, ascN_append, ascN_append, ascN_append p y]
  have h1 : crsN p.reverse y = crsN p y := crsN_perm_l y (List.reverse_perm p)
  have h2 : crsN x (p.reverse ++ y) = crsN x (p ++ y) := crsN_perm_r x ((List.reverse_perm p).append_right y)
  omega
theorem ascN_desc : ∀ {l : List Int}, l.Pairwise (fun a b => b ≤ a) → ascN l = 0
  | [], _ => rfl
  | a :: l, h => by
    obtain ⟨h1, h2⟩ := List.pairwise_cons.mp h
    show List.countP _ l + ascN l = 0
    rw [ascN_desc h2, List.countP_eq_zero.mpr fun b hb => by have := h1 b hb; simp; omega]
theorem ascN_le : ∀ l : List Int, ascN l ≤ l.length * l.length
  | [] => Nat.le_refl _
  | a :: l => by
    have h1 := ascN_le l
    have h2 : l.countP (fun b => decide (a < b)) ≤ l.length := List.countP_le_length
    show List.countP _ l + ascN l ≤ (l.length + 1) * (l.length + 1)
    have : (l.length + 1) * (l.length + 1) = l.length * l.length + l.length + (l.length + 1) := by rw [Nat.add_mul, Nat.mul_add]; omega
    omega
theorem ascN_sub {a b : Int} (h : a < b) : ∀ {l : List Int}, [a, b] <+ l → 0 < ascN l
  | [], hs => by cases hs
  | c :: l, hs => by
    show 0 < List.countP _ l + ascN l
    cases hs with
    | cons _ hs => have := ascN_sub h hs; omega
    | cons_cons _ hs =>
      have : b ∈ l := List.singleton_sublist.mp hs
      have : 0 < l.countP (fun b => decide (a < b)) := List.countP_pos_iff.mpr ⟨b, this, decide_eq_true h⟩
      omega
/-- no neighbours rise: all fall -/
theorem desc_of : ∀ {l : List Int}, (∀ i (h : i + 1 < l.length), l[i + 1] ≤ l[i]) → l.Pairwise (fun a b => b ≤ a)
  | [], _ => .nil
  | [a], _ => by simp
  | a :: b :: l, h => by
    have ih : (b :: l).Pairwise (fun a b => b ≤ a) := desc_of fun i hi => h (i + 1) (by simp at hi ⊢; omega)
    refine List.pairwise_cons.mpr ⟨fun c hc => ?_, ih⟩
    have hab : b ≤ a := h 0 (by simp)
    rcases List.mem_cons.mp hc with rfl | hc
    · exact hab
    · have := (List.pairwise_cons.mp ih).1 c hc
      omega
theorem asc_of {l : List Int} (h : ∀ i (h : i + 1 < l.length), l[i] < l[i + 1]) : l.Pairwise (fun a b => a < b) := by
  match l, h with
  | [], _ => exact .nil
  | [a], _ => simp
  | a :: b :: l, h =>
    have ih : (b :: l).Pairwise (fun a b => a < b) := asc_of fun i hi => h (i + 1) (by simp at hi ⊢; omega)
    refine List.pairwise_cons.mpr ⟨fun c hc => ?_, ih⟩
    have hab : a < b := h 0 (by simp)
    rcases List.mem_cons.mp hc with rfl | hc
    · exact hab
    · have := (List.pairwise_cons.mp ih).1 c hc
      omega
termination_by l.length
theorem ascN_rev {p : List Int} (h : p.Pairwise (fun a b => a < b)) : ascN p.reverse = 0 := by
  refine ascN_desc ?_
  rw [List.pairwise_reverse]
  exact h.imp fun h => by omega
theorem ascN_pos {p : List Int} (h : p.Pairwise (fun a b => a < b)) (hl : 2 ≤ p.length) : 0 < ascN p := by
  match p, h, hl with
  | a :: b :: l, h, _ =>
    have hab : a < b := (List.pairwise_cons.mp h).1 b List.mem_cons_self
    exact ascN_sub hab (List.Sublist.cons_cons a (List.Sublist.cons_cons b (List.nil_sublist l)))
theorem turn_split (row : List Int) (t : Trn) : row = row.take t.1 ++ (row.drop t.1).take t.2 ++ row.drop (t.1 + t.2) := by
  conv => lhs; rw [← List.take_append_drop t.1 row, ← List.take_append_drop t.2 (row.drop t.1), List.drop_drop]
  rw [List.append_assoc]
/-- a turn of a rising part -/
theorem turn_less (row : List Int) (t : Trn) (h : ((row.drop t.1).take t.2).Pairwise (fun a b => a < b)) (hl : 2 ≤ ((row.drop t.1).take t.2).length) : ascN (turnR row t) < ascN row := by
  have h1 := ascN_swap (row.take t.1) ((row.drop t.1).take t.2) (row.drop (t.1 + t.2))
  rw [← turn_split, ascN_rev h] at h1
  have := ascN_pos h hl
  unfold turnR
  omega
/-- a pair keeps its order, unless it is turned -/
theorem sub_keep {a b : Int} (x p y : List Int) (h : [a, b] <+ x ++ p ++ y) : (a ∈ p ∧ b ∈ p) ∨ [a, b] <+ x ++ p.reverse ++ y := by
  rw [List.append_assoc] at h ⊢
  obtain ⟨l1, l2, e, h1, h2⟩ := List.sublist_append_iff.mp h
  match l1, e with
  | [], e =>
    have e : l2 = [a, b] := by simpa using e.symm
    subst e
    obtain ⟨m1, m2, e, g1, g2⟩ := List.sublist_append_iff.mp h2
    match m1, e with
    | [], e =>
      have e : m2 = [a, b] := by simpa using e.symm
      subst e
      exact .inr ((g2.trans (List.sublist_append_right _ _)).trans (List.sublist_append_right _ _))
    | [c], e =>
      obtain ⟨rfl, rfl⟩ : c = a ∧ m2 = [b] := by simpa [eq_comm] using e
      have hc : c ∈ p.reverse := List.mem_reverse.mpr (List.singleton_sublist.mp g1)
      have : [c] ++ [b] <+ p.reverse ++ y := (List.singleton_sublist.mpr hc).append g2
      exact .inr (this.trans (List.sublist_append_right _ _))
    | [c, d], e =>
      obtain ⟨rfl, rfl⟩ : c = a ∧ d = b := by
        simp at e
        exact ⟨e.1.symm, e.2.1.symm⟩
      exact .inl ⟨g1.subset (by simp), g1.subset (by simp)⟩
    | _ :: _ :: _ :: _, e => simp at e
  | [c], e =>
    obtain ⟨rfl, rfl⟩ : c = a ∧ l2 = [b] := by simpa [eq_comm] using e
    have hb : b ∈ p.reverse ++ y := by
      have := List.singleton_sublist.mp h2
      simpa using this
    have : [c] ++ [b] <+ x ++ (p.reverse ++ y) := h1.append (List.singleton_sublist.mpr hb)
    exact .inr this
  | [c, d], e =>
    obtain ⟨rfl, rfl⟩ : c = a ∧ d = b := by
      simp at e
      exact ⟨e.1.symm, e.2.1.symm⟩
    exact .inr (h1.trans (List.sublist_append_left _ _))
  | _ :: _ :: _ :: _, e => simp at e
/-- each pair is turned somewhere -/
def CovT (n : Int) (ts : List Trn) : Prop := ∀ a b : Int, 0 ≤ a → a < b → b < n → ∃ i, i < ts.length ∧ a ∈ blk (rngZ n) ts i ∧ b ∈ blk (rngZ n) ts i
theorem blk_app (r0 : List Int) (l m : List Trn) (i : Nat) (h : i < l.length) : blk r0 (l ++ m) i = blk r0 l i := by
  unfold blk
  rw [List.take_append_of_le_length (by omega), List.getD_eq_getElem?_getD, List.getD_eq_getElem?_getD, List.getElem?_append_left h]
theorem blk_last (r0 : List Int) (l : List Trn) (t : Trn) : blk r0 (l ++ [t]) l.length = ((l.foldl turnR r0).drop t.1).take t.2 := by
  unfold blk
  rw [List.take_append_of_le_length (Nat.le_refl _), List.take_length, List.getD_eq_getElem?_getD, List.getElem?_append_right (Nat.le_refl _), Nat.sub_self]
  rfl
theorem covered {r0 : List Int} {a b : Int} (h0 : [a, b] <+ r0) : ∀ (m l : List Trn), ([a, b] <+ l.foldl turnR r0 ∨ ∃ i, i < l.length ∧ a ∈ blk r0 l i ∧ b ∈ blk r0 l i) →
    ([a, b] <+ (l ++ m).foldl turnR r0 ∨ ∃ i, i < (l ++ m).length ∧ a ∈ blk r0 (l ++ m) i ∧ b ∈ blk r0 (l ++ m) i)
  | [], l, h => by rw [List.append_nil]; exact h
  | t :: m, l, h => by
    have h2 := covered h0 m (l ++ [t]) (by
      rcases h with h | ⟨i, h1, h2, h3⟩
      · rw [turn_split (l.foldl turnR r0) t] at h
        rcases sub_keep _ _ _ h with h | h
        · exact .inr ⟨l.length, by simp, by rw [blk_last]; exact h.1, by rw [blk_last]; exact h.2⟩
        · left
          rw [List.foldl_append]
          exact h
      · exact .inr ⟨i, by rw [List.length_append]; omega, by rw [blk_app _ _ _ _ h1]; exact h2, by rw [blk_app _ _ _ _ h1]; exact h3⟩)
    rw [List.append_assoc] at h2
    exact h2
theorem sub_range {a b : Nat} (h : a < b) : ∀ {n : Nat}, b < n → [a, b] <+ List.range n
  | 0, hb => by omega
  | n + 1, hb => by
    rw [List.range_succ]
    by_cases h2 : b < n
    · exact (sub_range h h2).trans (List.sublist_append_left _ _)
    · have e : b = n := by omega
      subst e
      have : [a] ++ [b] <+ List.range b ++ [b] := (List.singleton_sublist.mpr (List.mem_range.mpr h)).append (List.Sublist.refl _)
      exact this
theorem sub_rngZ {n a b : Int} (h0 : 0 ≤ a) (h1 : a < b) (h2 : b < n) : [a, b] <+ rngZ n := by
  have h := (sub_range (a := a.toNat) (b := b.toNat) (n := n.toNat) (by omega) (by omega)).map (fun (i : Nat) => (0 + (i : Int)))
  have e : List.map (fun (i : Nat) => (0 + (i : Int))) [a.toNat, b.toNat] = [a, b] := by
    show [0 + (a.toNat : Int), 0 + (b.toNat : Int)] = _
    rw [show 0 + (a.toNat : Int) = a by omega, show 0 + (b.toNat : Int) = b by omega]
  rw [e] at h
  exact h
theorem covT_of {n : Int} {ts : List Trn} (h : ascN (ts.foldl turnR (rngZ n)) = 0) : CovT n ts := fun a b h0 h1 h2 => by
  have hs := sub_rngZ h0 h1 h2
  have := covered hs ts [] (.inl hs)
  rw [List.nil_append] at this
  rcases this with q | q
  · have := ascN_sub h1 q
    omega
  · exact q
/-! ### the times of pairs that are turned -/
theorem fold_some {α : Type} (Pr : Tab → Prop) (ff : Tab → α → Tab) (hp : ∀ s x, Pr s → Pr (ff s x)) : ∀ (l : List α) (s : Tab), (Pr s ∨ ∃ x ∈ l, ∀ s, Pr (ff s x)) → Pr (l.foldl ff s)
  | [], s, h => by
    rcases h with h | ⟨x, hx, _⟩
    · exact h
    · cases hx
  | y :: l, s, h => by
    rw [List.foldl_cons]
    refine fold_some Pr ff hp l _ ?_
    rcases h with h | ⟨x, hx, h⟩
    · exact .inl (hp _ _ h)
    · rcases List.mem_cons.mp hx with rfl | hx
      · exact .inl (h s)
      · exact .inr ⟨x, hx, h⟩
theorem cov_of {n : Int} {ts : List Trn} (h : CovT n ts) : Cov n ts := fun a b h0 h1 h2 => by
  obtain ⟨i, hi, ha, hb⟩ := h a b h0 h1 h2
  have hB : ∀ (v c : Int) (s : Tab) (d : Int), (∃ x, lookI s [a, b] = some x) → ∃ x, lookI (tmB v c s d) [a, b] = some x := fun v c s d h => by
    unfold tmB
    split
    · exact h
    · rw [lookI_put]
      split
      · exact ⟨_, rfl⟩
      · exact h
  have hA : ∀ (v : Int) (l : List Int) (s : Tab) (c : Int), (∃ x, lookI s [a, b] = some x) → ∃ x, lookI (tmA v l s c) [a, b] = some x := fun v l s c h =>
    fold_some (fun s => ∃ x, lookI s [a, b] = some x) (tmB v c) (hB v c) l s (.inl h)
  have hT : ∀ (s : Tab) (j : Nat), (∃ x, lookI s [a, b] = some x) → ∃ x, lookI (tmT (rngZ n) ts s j) [a, b] = some x := fun s j h =>
    fold_some (fun s => ∃ x, lookI s [a, b] = some x) (tmA _ _) (hA _ _) _ s (.inl h)
  refine fold_some (fun s => ∃ x, lookI s [a, b] = some x) (tmT (rngZ n) ts) hT _ _ (.inr ⟨i, List.mem_range.mpr hi, fun s => ?_⟩)
  refine fold_some (fun s => ∃ x, lookI s [a, b] = some x) (tmA _ _) (hA _ _) _ s (.inr ⟨a, ha, fun s => ?_⟩)
  refine fold_some (fun s => ∃ x, lookI s [a, b] = some x) (tmB _ _) (hB _ _) _ s (.inr ⟨b, hb, fun s => ?_⟩)
  unfold tmB
  rw [if_neg (by omega), lookI_put, if_pos rfl]
  exact ⟨_, rfl⟩
end Bl
set_option Elab.async false
set_option linter.all false
set_option maxRecDepth 100000
set_option maxHeartbeats 4000000
namespace Bl
open PySem PySem.Spec PyProof.Rows L2
/-! ### turns by a draw -/
structure TS_ where
  ps : List Int
  row : List Int
  ts : List Trn
structure MS_ where
  ps : List Int
  m : Int
  room : Int
def upsZ (n : Int) (row : List Int) : List Int := (rngZ (n - 1)).filter fun p => decide (gI row p < gI row (p + 1))
def mStep (n p : Int) (row : List Int) (s : MS_) (_ : Int) : MS_ :=
  if s.m < s.room ∧ p + s.m < n ∧ gI row (p + s.m - 1) < gI row (p + s.m) then
    (if 3 ≤ nextV s.ps 5 then ⟨s.ps.dropLast, s.m + 1, s.room⟩ else ⟨s.ps.dropLast, s.m, s.m⟩)
  else s
def upP (n : Int) (s : TS_) : Int := (upsZ n s.row).getD (nextV s.ps ((upsZ n s.row).length : Int)).toNat 0
def upM (n w : Int) (s : TS_) : MS_ := (rngZ n).foldl (mStep n (upP n s) s.row) ⟨s.ps.dropLast, 2, w⟩
def upT (n w : Int) (s : TS_) : Trn := ((upP n s).toNat, (upM n w s).m.toNat)
def tStep (n w : Int) (s : TS_) (_ : Int) : TS_ :=
  if (upsZ n s.row).length = 0 then s else ⟨(upM n w s).ps, turnR s.row (upT n w s), s.ts ++ [upT n w s]⟩
def turnsZ (n w : Int) (ps : List Int) : TS_ := (rngZ (n * n)).foldl (tStep n w) ⟨ps, rngZ n, []⟩
theorem gI_get {row : List Int} {i : Int} (h0 : 0 ≤ i) (h : i.toNat < row.length) : gI row i = row[i.toNat] := by
  unfold gI atI ixN
  rw [if_pos h0, if_pos (by omega)]
  show (row[i.toNat]?).getD 0 = _
  rw [List.getElem?_eq_getElem h]
  rfl
theorem gI_ok {row : List Int} {i : Int} (h0 : 0 ≤ i) (h : i.toNat < row.length) : AtOk row i := by
  unfold AtOk atI ixN
  rw [if_pos h0, if_pos (by omega)]
  show (row[i.toNat]?).isSome = true
  rw [List.getElem?_eq_getElem h]
  rfl
/-- what a growing part keeps -/
structure MOk (n p : Int) (row : List Int) (s : MS_) : Prop where
  m2 : 2 ≤ s.m
  le : p + s.m ≤ n
  up : ∀ i : Int, p ≤ i → i + 1 < p + s.m → gI row i < gI row (i + 1)
theorem mStep_ok {n p : Int} {row : List Int} {s : MS_} (x : Int) (h : MOk n p row s) : MOk n p row (mStep n p row s x) := by
  unfold mStep
  split
  · rename_i hc
    split
    · refine ⟨by show 2 ≤ s.m + 1; have := h.m2; omega, by show p + (s.m + 1) ≤ n; omega, fun i h1 h2 => ?_⟩
      have h2 : i + 1 < p + (s.m + 1) := h2
      by_cases he : i + 1 = p + s.m
      · have e : i = p + s.m - 1 := by omega
        subst e
        have := hc.2.2
        rw [show p + s.m - 1 + 1 = p + s.m by omega]
        exact this
      · exact h.up i h1 (by omega)
    · exact ⟨h.m2, h.le, h.up⟩
  · exact h
theorem mFold_ok {n p : Int} {row : List Int} : ∀ (l : List Int) (s : MS_), MOk n p row s → MOk n p row (l.foldl (mStep n p row) s)
  | [], s, h => h
  | a :: l, s, h => mFold_ok l _ (mStep_ok a h)
theorem ups_mem {n p : Int} {row : List Int} (h : p ∈ upsZ n row) : 0 ≤ p ∧ p + 2 ≤ n ∧ gI row p < gI row (p + 1) := by
  obtain ⟨h1, h2⟩ := List.mem_filter.mp h
  have := mem_rngZ h1
  exact ⟨this.1, by omega, of_decide_eq_true h2⟩
theorem upP_mem {n : Int} {s : TS_} (h : (upsZ n s.row).length ≠ 0) : upP n s ∈ upsZ n s.row := by
  have hx := nextV_rng s.ps (show (0 : Int) < ((upsZ n s.row).length : Int) by omega)
  unfold upP
  rw [List.getD_eq_getElem?_getD, List.getElem?_eq_getElem (by omega)]
  exact List.getElem_mem _
theorem upM_ok {n w : Int} {s : TS_} (h : (upsZ n s.row).length ≠ 0) : MOk n (upP n s) s.row (upM n w s) := by
  obtain ⟨h1, h2, h3⟩ := ups_mem (upP_mem h)
  refine mFold_ok _ _ ⟨Int.le_refl 2, h2, fun i h4 h5 => ?_⟩
  have h5 : i + 1 < upP n s + 2 := h5
  have e : i = upP n s := by omega
  rw [e]
  exact h3
theorem tStep_less {n w : Int} {s : TS_} (hl : s.row.length = n.toNat) (h : (upsZ n s.row).length ≠ 0) : ascN (turnR s.row (upT n w s)) < ascN s.row := by
  obtain ⟨h1, h2, h3⟩ := ups_mem (upP_mem h)
  have hm := upM_ok (w := w) h
  have g1 := hm.m2
  have g2 := hm.le
  have e : (((s.row.drop (upT n w s).1).take (upT n w s).2)).length = (upM n w s).m.toNat := by
    unfold upT
    rw [List.length_take, List.length_drop, hl]
    dsimp only
    omega
  refine turn_less s.row (upT n w s) (asc_of fun i hi => ?_) (by rw [e]; omega)
  rw [e] at hi
  rw [List.getElem_take, List.getElem_take, List.getElem_drop, List.getElem_drop]
  have := hm.up (upP n s + i) (by omega) (by omega)
  rw [gI_get (by omega) (by omega), gI_get (by omega) (by omega)] at this
  have e1 : (upP n s + (i : Int)).toNat = (upT n w s).1 + i := by show _ = (upP n s).toNat + i; omega
  have e2 : (upP n s + (i : Int) + 1).toNat = (upT n w s).1 + (i + 1) := by show _ = (upP n s).toNat + (i + 1); omega
  simp only [e1, e2] at this
  exact this
theorem ups_none {n : Int} {row : List Int} (hl : row.length = n.toNat) (h : (upsZ n row).length = 0) : ascN row = 0 := by
  refine ascN_desc (desc_of fun i hi => ?_)
  have hn : upsZ n row = [] := List.length_eq_zero_iff.mp h
  have hm : (i : Int) ∈ rngZ (n - 1) := by
    unfold rngZ
    exact List.mem_map.mpr ⟨i, List.mem_range.mpr (by omega), by omega⟩
  have : ¬ gI row (i : Int) < gI row ((i : Int) + 1) := fun z => by
    have : (i : Int) ∈ upsZ n row := List.mem_filter.mpr ⟨hm, decide_eq_true z⟩
    rw [hn] at this
    cases this
  rw [gI_get (by omega) (by omega), gI_get (by omega) (by omega)] at this
  have e1 : ((i : Int)).toNat = i := by omega
  have e2 : ((i : Int) + 1).toNat = i + 1 := by omega
  simp only [e1, e2] at this
  omega
structure TOk (n : Int) (k : Nat) (s : TS_) : Prop where
  row : s.row = s.ts.foldl turnR (rngZ n)
  len : s.ts.length ≤ k
  less : ascN s.row + k ≤ n.toNat * n.toNat ∨ ascN s.row = 0
theorem TOk.rowLen {n : Int} {k : Nat} {s : TS_} (h : TOk n k s) : s.row.length = n.toNat := by rw [h.row, turnsR_len, rngZ_len]
theorem tStep_ok {n w : Int} {k : Nat} {s : TS_} (x : Int) (h : TOk n k s) : TOk n (k + 1) (tStep n w s x) := by
  unfold tStep
  split
  · rename_i hz
    exact ⟨h.row, by have := h.len; omega, .inr (ups_none h.rowLen hz)⟩
  · rename_i hz
    have hl := tStep_less (w := w) h.rowLen hz
    refine ⟨?_, ?_, ?_⟩
    · show turnR s.row (upT n w s) = (s.ts ++ [upT n w s]).foldl turnR (rngZ n)
      rw [List.foldl_append, ← h.row]
      rfl
    · show (s.ts ++ [upT n w s]).length ≤ k + 1
      rw [List.length_append, List.length_singleton]
      have := h.len
      omega
    · show ascN (turnR s.row (upT n w s)) + (k + 1) ≤ _ ∨ ascN (turnR s.row (upT n w s)) = 0
      rcases h.less with q | q
      · left; omega
      · right; omega
theorem tFold_ok {n w : Int} : ∀ (l : List Int) (k : Nat) (s : TS_), TOk n k s → TOk n (k + l.length) (l.foldl (tStep n w) s)
  | [], k, s, h => h
  | a :: l, k, s, h => by
    have := tFold_ok (w := w) l (k + 1) _ (tStep_ok (w := w) a h)
    rw [List.length_cons, show k + (l.length + 1) = k + 1 + l.length by omega]
    exact this
theorem tS0 (n : Int) (ps : List Int) : TOk n 0 ⟨ps, rngZ n, []⟩ := ⟨rfl, Nat.le_refl _, .inl (by
  have := ascN_le (rngZ n)
  rw [rngZ_len] at this
  exact this)⟩
theorem turns_ok {n : Int} (h0 : 0 ≤ n) (w : Int) (ps : List Int) : TOk n (n * n).toNat (turnsZ n w ps) := by
  have := tFold_ok (w := w) (rngZ (n * n)) 0 _ (tS0 n ps)
  rw [rngZ_len, Nat.zero_add] at this
  exact this
theorem turns_cov {n : Int} (h0 : 0 ≤ n) (w : Int) (ps : List Int) : CovT n (turnsZ n w ps).ts := by
  have h := turns_ok h0 w ps
  refine covT_of ?_
  rw [← h.row]
  rcases h.less with q | q
  · have : (n * n).toNat = n.toNat * n.toNat := Int.toNat_mul h0 h0
    omega
  · exact q
theorem keepg_set {ow : List OB} {k : Nat} {l : List D} : KeepG ow (ow.set k (.l l)) := by
  refine ⟨fun gs h => ?_, fun gs h => ?_⟩ <;>
  · rcases List.mem_or_eq_of_mem_set h with h | h
    · exact h
    · cases h
theorem set_app' {ow : List OB} {k : Nat} {b x y : OB} (h : ow[k]? = some x) : (ow ++ [y]).set k b = ow.set k b ++ [y] := by
  rw [List.set_append_left _ _ (List.getElem?_eq_some_iff.mp h).1]
theorem get_app' {ow : List OB} {k : Nat} {x y : OB} (h : ow[k]? = some x) : (ow ++ [y])[k]? = some x := by
  rw [List.getElem?_append_left (List.getElem?_eq_some_iff.mp h).1]; exact h
theorem app_get' {ow : List OB} {b : OB} {n : Nat} (h : n = ow.length) : (ow ++ [b])[n]? = some b := by
  subst h
  rw [List.getElem?_append_right (Nat.le_refl _), Nat.sub_self]; rfl
theorem set_last' {ow : List OB} {b b' : OB} {n : Nat} (h : n = ow.length) : (ow ++ [b]).set n b' = ow ++ [b'] := by
  subst h
  exact set_last
theorem get_set' {ow : List OB} {k : Nat} {a x : OB} (h : ow[k]? = some x) : (ow.set k a)[k]? = some a := List.getElem?_set_self (List.getElem?_eq_some_iff.mp h).1
section
variable {P : Program} {w : World} {K : PySem.W.Frag} {mg : Str → Option Value} {base : Heap} {f : Addr} {fd : FuncData} {k : Nat} {C : Addr}
abbrev sTurns : Stmt := topS 39
abbrev nTurns : List Str := ["_law_pool_here", "_law_size_here", "_law_widest", "_law_row", "_law_turns_here", "_law_count", "_law_p", "_law_ups", "_law_m", "_law_room", "_law_more", "_law_part_here"]
theorem scTurns : FnScope nTurns ["_law_pool_here", "_law_size_here", "_law_widest"] (defScope sTurns) := ⟨rfl, rfl, rfl, by decide +kernel, rfl, by decide +kernel, by decide +kernel⟩
def gTurns : GG := fun rs ow r ow' => ∃ (kp : Nat) (n wd : Int) (ps : List Int), rs = [.own kp, .d (.int n), .d (.int wd)] ∧ ow[kp]? = some (.l (ps.map D.int)) ∧ 0 ≤ n ∧ n ≤ 8 ∧ r = .d (.lst ((turnsZ n wd ps).ts.map turnD)) ∧ ow' = ow.set kp (.l ((turnsZ n wd ps).ps.map D.int))
abbrev tuSt (kp : Nat) (n wd : Int) (row : List Int) (kt : Nat) (c p ups m room more part : Option R) : Sta := [some (.own kp), some (.d (.int n)), some (.d (.int wd)), some (.d (lstVI row)), some (.own kt), c, p, ups, m, room, more, part]
abbrev tuO (ow : List OB) (kp : Nat) (ps : List Int) (ts : List Trn) : List OB := ow.set kp (.l (ps.map D.int)) ++ [.l (ts.map turnD)]
set_option maxHeartbeats 16000000 in
theorem ok_turns (F : Fun K "_law_turns" "_law_turns" sTurns f fd) (C1 : Fg P w K mg base "_law_next" k ["_law_pool_here", "_law_many"] gNext) (mR : mg "range" = none) (mL : mg "list" = none) (mN : mg "len" = none) : FnOk P w K mg base CX0 (k + 1) f fd ["_law_pool_here", "_law_size_here", "_law_widest"] (spF K gTurns) := by
  refine okF F scTurns (fun rs ow r ow' h => ?_) (fun cdv A outer s H E hr rs ow r ow' h => ?_)
  · obtain ⟨kp, n, wd, ps, rfl, _⟩ := h
    rfl
  · obtain ⟨kp, n, wd, ps, rfl, hp, h0, h8, rfl, rfl⟩ := h
    have hnn : 0 ≤ n * n ∧ n * n ≤ 64 := ⟨Int.mul_nonneg h0 h0, by
      have h1 : n * n ≤ 8 * n := Int.mul_le_mul_of_nonneg_right h8 h0
      omega⟩
    have hkl : kp < ow.length := (List.getElem?_eq_some_iff.mp hp).1
    refine pbd_frzR (ow1 := ow.set kp (.l ((turnsZ n wd ps).ps.map D.int))) ?_ (by rw [List.length_set]) keepg_set
    rw [List.length_set]
    refine pbd_cons (psd_set 3 scTurns.nd (pd_eqD (pd_lstRg rfl mL mR (pd_var 1) ⟨h0, by omega⟩) (by rw [rngD_Z]))) ?_
    refine pbd_cons (psd_set 4 scTurns.nd (pd_lstO padd_nil)) ?_
    refine pbd_cons (psd_forF [5] (rngZ (n * n)) D.int (TS_.mk ps (rngZ n) []) (tStep n wd) (fun s => tuSt kp n wd s.row ow.length none none none none none none none) (fun s i => tuSt kp n wd s.row ow.length (some (.d (.int i))) none none none none none none) (fun s => tuO ow kp s.ps s.ts) PassesOwn.never rfl
      (pid_eq (pid_range1 mR (padd_cons (pd_mul (pd_var 1) (pd_var 1) ?_) padd_nil) (by omega)) (rngD_Z _)) ⟨rfl, fun i r h => h⟩ ?_ (fun l i r hl => pgd_name 5 scTurns.nd) (fun l c r hl => ?_)) ?_
    · exact .inl ⟨by omega, by omega⟩
    · show ow.set kp (OB.l (ps.map D.int)) ++ [OB.l []] = ow ++ [OB.l []]
      rw [set_same hp]
    · have hok := tFold_ok (w := wd) l 0 _ (tS0 n ps)
      have hll := (pre_mem hl).2.2
      rw [rngZ_len] at hll
      rw [Nat.zero_add] at hok
      generalize l.foldl (tStep n wd) (TS_.mk ps (rngZ n) []) = s at hok
      have hrl := hok.rowLen
      have htl := hok.len
      have hP : (tuO ow kp s.ps s.ts)[kp]? = some (.l (s.ps.map D.int)) := get_app' (get_set' hp)
      have hrow : ∀ x : Int, 0 ≤ x → x < n → atI (s.row.map D.int) x = some (.int (gI s.row x)) := fun x h1 h2 => at_map (gI_ok h1 (by omega))
      refine pbd_cons (psd_setLc (own := [("_law_p", 6)]) 7 (rngZ (n - 1)) D.int (fun x => tuSt kp n wd s.row ow.length (some (.d (.int c))) (some (.d (.int x))) none none none none none) (fun p => decide (gI s.row p < gI s.row (p + 1))) D.int
        rfl scTurns.nd (pid_eq (pid_range1 mR (padd_cons (pd_sub (pd_var 1) pd_int) padd_nil) (by omega)) (rngD_Z (n - 1))) (blkOk_by (N := nTurns) (sc := defScope sTurns) (by decide +kernel)) (by rw [rngZ_len]; omega) (fun x hx _ H C' cl fp => pgd_name 6 scTurns.nd)
        (fun x hx l _ H C' cl fp => ptsd_one (ptd_lt (pd_ixL (pd_lstW (pd_var 3)) (pd_var 6) (hrow x (mem_rngZ hx).1 (by have := mem_rngZ hx; omega))) (pd_ixL (pd_lstW (pd_var 3)) (pd_add (pd_var 6) pd_int) (hrow (x + 1) (by have := mem_rngZ hx; omega) (by have := mem_rngZ hx; omega))))) (fun x hx _ l _ H C' cl fp => pd_var 6)) ?_
      have eups : ((rngZ (n - 1)).filter fun p => decide (gI s.row p < gI s.row (p + 1))) = upsZ n s.row := rfl
      rw [eups]
      unfold tStep
      by_cases hz : (upsZ n s.row).length = 0
      · rw [if_pos hz]
        exact pbd_weak (pbd_skip (ptd_gt (pd_lenL mN (padd_cons (pd_var 7) padd_nil)) pd_int) (by rw [List.length_map, hz]; rfl) pbd_nil) rfl (by (intro i r h; rcases i with _ | _ | _ | _ | _ | _ | _ | _ | _ | _ | _ | _ | i <;> first | exact h | cases h))
      · rw [if_neg hz]
        have hmem := upP_mem hz
        obtain ⟨q1, q2, q3⟩ := ups_mem hmem
        have hM := upM_ok (w := wd) hz
        have hx := nextV_rng s.ps (show (0 : Int) < ((upsZ n s.row).length : Int) by omega)
        have hlt : (nextV s.ps ((upsZ n s.row).length : Int)).toNat < (upsZ n s.row).length := by omega
        have hat : atI ((upsZ n s.row).map D.int) (nextV s.ps ((upsZ n s.row).length : Int)) = some (.int (upP n s)) := by
          unfold atI ixN upP
          rw [List.length_map, if_pos hx.1, if_pos hx.2]
          show ((upsZ n s.row).map D.int)[(nextV s.ps _).toNat]? = _
          rw [List.getElem?_map, List.getD_eq_getElem?_getD, List.getElem?_eq_getElem hlt]
          rfl
        obtain ⟨t, ht⟩ : ∃ t, t = upT n wd s := ⟨_, rfl⟩
        have hp1 : upP n s = (t.1 : Int) := by rw [ht]; show _ = (((upP n s).toNat : Nat) : Int); omega
        have hm1 : (upM n wd s).m = (t.2 : Int) := by rw [ht]; show _ = (((upM n wd s).m.toNat : Nat) : Int); have := hM.m2; omega
        rw [← ht]
        refine pbd_weak (st1 := tuSt kp n wd (turnR s.row t) ow.length (some (.d (.int c))) (some (.d (.int (t.1 : Int)))) (some (.d (.lst ((upsZ n s.row).map D.int)))) (some (.d (.int (t.2 : Int)))) (some (.d (.int (upM n wd s).room))) none (some (.d (lstVI ((s.row.drop t.1).take t.2).reverse)))) (pbd_cons (psd_if (bl := true) (ptd_eqB (ptd_gt (pd_lenL mN (padd_cons (pd_var 7) padd_nil)) pd_int) (by rw [List.length_map]; exact decide_eq_true (by omega))) (fun _ => ?_) (fun z => nomatch z)) pbd_nil) rfl (by (intro i r h; rcases i with _ | _ | _ | _ | _ | _ | _ | _ | _ | _ | _ | _ | i <;> first | exact h | cases h))
        have eset : ∀ (a b : List Int), (tuO ow kp a s.ts).set kp (.l (b.map D.int)) = tuO ow kp b s.ts := fun a b => by
          show (ow.set kp (OB.l (a.map D.int)) ++ [OB.l (s.ts.map turnD)]).set kp _ = _
          rw [set_app' (get_set' hp), List.set_set]
        have eget : ∀ (a : List Int), (tuO ow kp a s.ts)[kp]? = some (.l (a.map D.int)) := fun a => get_app' (get_set' hp)
        refine pbd_cons (psd_set 6 scTurns.nd (pd_ixL (pd_var 7) (pd_ow (pd_cg C1 hr (Nat.le_refl _) (pad_cons (pd_var 0) (padd_cons (pd_eqD (pd_lenL mN (padd_cons (pd_var 7) padd_nil)) (by rw [List.length_map])) padd_nil)) ⟨kp, ((upsZ n s.row).length : Int), s.ps, rfl, eget _, by omega, rfl, rfl⟩) (eset _ _)) hat)) ?_
        refine pbd_cons (psd_set 8 scTurns.nd pd_int) ?_
        refine pbd_cons (psd_set 9 scTurns.nd (pd_var 2)) ?_
        refine pbd_cons (psd_forF [10] (rngZ n) D.int (MS_.mk s.ps.dropLast 2 wd) (mStep n (upP n s) s.row) (fun u => tuSt kp n wd s.row ow.length (some (.d (.int c))) (some (.d (.int (upP n s)))) (some (.d (.lst ((upsZ n s.row).map D.int)))) (some (.d (.int u.m))) (some (.d (.int u.room))) none none)
          (fun u x => tuSt kp n wd s.row ow.length (some (.d (.int c))) (some (.d (.int (upP n s)))) (some (.d (.lst ((upsZ n s.row).map D.int)))) (some (.d (.int u.m))) (some (.d (.int u.room))) (some (.d (.int x))) none) (fun u => tuO ow kp u.ps s.ts) PassesOwn.never rfl
          (pid_eq (pid_range1 mR (padd_cons (pd_var 1) padd_nil) (by omega)) (rngD_Z _)) ⟨rfl, fun i r h => h⟩ rfl (fun l i r hl => pgd_name 10 scTurns.nd) (fun l x r hl => ?_)) ?_
        · have hu := mFold_ok l (MS_.mk s.ps.dropLast 2 wd) (n := n) (p := upP n s) (row := s.row) ⟨Int.le_refl 2, q2, fun i h4 h5 => by
            have h5 : i + 1 < upP n s + 2 := h5
            have e : i = upP n s := by omega
            rw [e]
            exact q3⟩
          generalize l.foldl (mStep n (upP n s) s.row) (MS_.mk s.ps.dropLast 2 wd) = u at hu
          have u1 := hu.m2
          have u2 := hu.le
          refine pbd_weak (st1 := tuSt kp n wd s.row ow.length (some (.d (.int c))) (some (.d (.int (upP n s)))) (some (.d (.lst ((upsZ n s.row).map D.int)))) (some (.d (.int (mStep n (upP n s) s.row u x).m))) (some (.d (.int (mStep n (upP n s) s.row u x).room))) (some (.d (.int x))) none) (pbd_cons (psd_if (bl := decide (u.m < u.room ∧ upP n s + u.m < n ∧ gI s.row (upP n s + u.m - 1) < gI s.row (upP n s + u.m))) (ptd_eqB (ptd_bool (pwd_and (ptd_lt (pd_var 8) (pd_var 9)) (fun _ => pwd_and (p := decide (upP n s + u.m < n)) (ptd_lt (pd_add (pd_var 6) (pd_var 8)) (pd_var 1)) (fun hb => pwd_and1 (ptd_lt (pd_ixL (pd_lstW (pd_var 3)) (pd_sub (pd_add (pd_var 6) (pd_var 8)) pd_int) (hrow (upP n s + u.m - 1) (by omega) (by have := of_decide_eq_true hb; omega))) (pd_ixL (pd_lstW (pd_var 3)) (pd_add (pd_var 6) (pd_var 8)) (hrow (upP n s + u.m) (by omega) (of_decide_eq_true hb)))))))) (by simp [Bool.and_assoc])) (fun hb => ?_) (fun hb => ?_)) pbd_nil) rfl (by (intro i r h; rcases i with _ | _ | _ | _ | _ | _ | _ | _ | _ | _ | _ | _ | i <;> first | exact h | cases h))
          · have hc := of_decide_eq_true hb
            unfold mStep
            rw [if_pos hc]
            refine pbd_cons (psd_if (ptd_ge (pd_ow (pd_cg C1 hr (Nat.le_refl _) (pad_cons (pd_var 0) (padd_cons pd_int padd_nil)) ⟨kp, 5, u.ps, rfl, eget _, by decide, rfl, rfl⟩) (eset _ _)) pd_int) (fun hb => ?_) (fun hb => ?_)) pbd_nil
            · rw [if_pos (of_decide_eq_true hb)]
              exact pbd_cons (psd_augI 8 scTurns.nd rfl pd_int) pbd_nil
            · rw [if_neg (of_decide_eq_false hb)]
              exact pbd_cons (psd_set 9 scTurns.nd (pd_var 8)) pbd_nil
          · have hc := of_decide_eq_false hb
            unfold mStep
            rw [if_neg hc]
            exact pbd_nil
        · show PBD _ (tuSt kp n wd s.row ow.length (some (.d (.int c))) (some (.d (.int (upP n s)))) (some (.d (.lst ((upsZ n s.row).map D.int)))) (some (.d (.int (upM n wd s).m))) (some (.d (.int (upM n wd s).room))) none none) (tuO ow kp (upM n wd s).ps s.ts) _ (.nx _ (tuO ow kp (upM n wd s).ps (s.ts ++ [t])))
          rw [hp1, hm1]
          have hL : s.row.length ≤ 8 := by omega
          generalize (upM n wd s).room = room
          generalize (upM n wd s).ps = ps2
          have hpc : cutD (s.row.map D.int) (some (t.1 : Int)) (some ((t.1 : Int) + (t.2 : Int))) = ((s.row.drop t.1).take t.2).map D.int := cut_mid _ _ _
          have hlen : (tuO ow kp ps2 s.ts).length = ow.length + 1 := by rw [List.length_append, List.length_set]; rfl
          refine pbd_frz2B (ow1 := tuO ow kp ps2 s.ts) (psd_set 11 scTurns.nd (pd_slO (pd_lstW (pd_var 3)) (pod_some (pd_var 6)) (pod_some (pd_add (pd_var 6) (pd_var 8))))) (psd_expr (pd_ow (pd_reverse (pd_var 11) app_get) set_last)) rfl .v ?_
          rw [hpc, ← List.map_reverse]
          have eU : unD (tuO ow kp ps2 s.ts).length (D.lstV (((s.row.drop t.1).take t.2).reverse.map D.int)) ((tuSt kp n wd s.row ow.length (some (.d (.int c))) (some (.d (.int (t.1 : Int)))) (some (.d (.lst ((upsZ n s.row).map D.int)))) (some (.d (.int (t.2 : Int)))) (some (.d (.int room))) none none).set 11 (some (.own (tuO ow kp ps2 s.ts).length))) = tuSt kp n wd s.row ow.length (some (.d (.int c))) (some (.d (.int (t.1 : Int)))) (some (.d (.lst ((upsZ n s.row).map D.int)))) (some (.d (.int (t.2 : Int)))) (some (.d (.int room))) none (some (.d (lstVI ((s.row.drop t.1).take t.2).reverse))) := by
            show [(if kp = (tuO ow kp ps2 s.ts).length then _ else _), _, _, _, (if ow.length = (tuO ow kp ps2 s.ts).length then _ else _), _, _, _, _, _, _, (if _ = _ then _ else _)] = _
            rw [if_neg (by omega), if_neg (by omega), if_pos rfl]
            rfl
          rw [eU]
          refine pbd_cons (psd_set 3 scTurns.nd (pd_eqD (pd_catV (pd_catV (pd_slV (pd_lstW (pd_var 3)) pod_none (pod_some (pd_var 6))) (pd_var 11) ?_) (pd_slV (pd_lstW (pd_var 3)) (pod_some (pd_add (pd_var 6) (pd_var 8))) pod_none) ?_) (d' := lstVI (turnR s.row t)) ?_)) (pbd_cons (psd_expr (pd_ow (pd_append (pd_var 4) (pd_tup (padd_cons (pd_var 6) (padd_cons (pd_var 8) padd_nil))) ⟨_, app_get' (by rw [List.length_set])⟩ (app_get' (by rw [List.length_set])) ?_) ?_)) pbd_nil)
          · rw [cut_pre, List.length_map, List.length_map, List.length_take, List.length_reverse, List.length_take, List.length_drop]; omega
          · rw [cut_pre, show (t.1 : Int) + (t.2 : Int) = ((t.1 + t.2 : Nat) : Int) by omega, cut_suf, List.length_append, List.length_map, List.length_map, List.length_map, List.length_take, List.length_reverse, List.length_take, List.length_drop, List.length_drop]; omega
          · rw [cut_pre, show (t.1 : Int) + (t.2 : Int) = ((t.1 + t.2 : Nat) : Int) by omega, cut_suf]
            unfold turnR lstVI
            rw [List.map_append, List.map_append]
          · rw [List.length_map]; omega
          · rw [set_last' (by rw [List.length_set])]
            show _ = ow.set kp (OB.l (ps2.map D.int)) ++ [OB.l ((s.ts ++ [t]).map turnD)]
            rw [List.map_append]
            rfl
    · exact pbd_last (psd_ret (pd_var 4))
end
end Bl
set_option Elab.async false
set_option linter.all false
set_option maxRecDepth 100000
set_option maxHeartbeats 4000000
namespace Bl
open PySem PySem.Spec PyProof.Rows L2
/-! ### drawings -/
def snocT (l : List Trn) (t : Trn) : List Trn := l ++ [t]
def fA1 (l : List Trn) (p : Int) : List Trn := l ++ [(p.toNat, 2)]
def fA2 (n : Int) (l : List Trn) (a : Int) : List Trn := (rngZ (n - 1 - a)).foldl fA1 l
def fanA (n : Int) : List Trn := (rngZ (n - 1)).foldl (fA2 n) []
def fB1 (n : Int) (l : List Trn) (p : Int) : List Trn := l ++ [((n - 2 - p).toNat, 2)]
def fB2 (n : Int) (l : List Trn) (a : Int) : List Trn := (rngZ (n - 1 - a)).foldl (fB1 n) l
def fanB (n : Int) : List Trn := (rngZ (n - 1)).foldl (fB2 n) []
def fanC (n : Int) : List Trn := (rngZ (n - 1)).foldl (fB1 n) [(0, (n - 1).toNat)]
def wideZ (n w : Int) : Int := if w % 3 = 2 then n else if w % 3 = 1 then 3 else 2
def drawnZ (n : Int) (ps : List Int) : List Trn × List Int :=
  if nextV ps 12 = 8 then (fanA n, ps.dropLast) else if nextV ps 12 = 9 then (fanB n, ps.dropLast)
  else if nextV ps 12 = 10 ∧ 1 < n then ([(0, n.toNat)], ps.dropLast) else if nextV ps 12 = 11 ∧ 2 < n then (fanC n, ps.dropLast)
  else ((turnsZ n (wideZ n (nextV ps 12)) ps.dropLast).ts, (turnsZ n (wideZ n (nextV ps 12)) ps.dropLast).ps)
theorem fans_ok {n : Int} (h1 : 1 ≤ n) (h7 : n ≤ 7) : (ascN ((fanA n).foldl turnR (rngZ n)) = 0 ∧ (fanA n).length ≤ 60) ∧ (ascN ((fanB n).foldl turnR (rngZ n)) = 0 ∧ (fanB n).length ≤ 60) ∧
    ascN ([((0 : Nat), n.toNat)].foldl turnR (rngZ n)) = 0 ∧ (ascN ((fanC n).foldl turnR (rngZ n)) = 0 ∧ (fanC n).length ≤ 60) := by
  have : n = 1 ∨ n = 2 ∨ n = 3 ∨ n = 4 ∨ n = 5 ∨ n = 6 ∨ n = 7 := by omega
  rcases this with rfl | rfl | rfl | rfl | rfl | rfl | rfl <;> decide +kernel
theorem drawn_ok {n : Int} (h1 : 1 ≤ n) (h7 : n ≤ 7) (ps : List Int) : CovT n (drawnZ n ps).1 ∧ (drawnZ n ps).1.length ≤ 100 := by
  obtain ⟨⟨a1, a2⟩, ⟨b1, b2⟩, c, d1, d2⟩ := fans_ok h1 h7
  unfold drawnZ
  split
  · exact ⟨covT_of a1, by dsimp only; omega⟩
  · split
    · exact ⟨covT_of b1, by dsimp only; omega⟩
    · split
      · exact ⟨covT_of c, by simp⟩
      · split
        · exact ⟨covT_of d1, by dsimp only; omega⟩
        · refine ⟨turns_cov (by omega) _ _, ?_⟩
          have := (turns_ok (by omega : 0 ≤ n) (wideZ n (nextV ps 12)) ps.dropLast).len
          have hn : n * n ≤ 49 := by
            have h1 : n * n ≤ 7 * n := Int.mul_le_mul_of_nonneg_right h7 (by omega)
            omega
          dsimp only
          omega
theorem fA1_len (l : List Trn) (p : Int) : (fA1 l p).length = l.length + 1 := by unfold fA1; rw [List.length_append]; rfl
theorem fB1_len (n : Int) (l : List Trn) (p : Int) : (fB1 n l p).length = l.length + 1 := by unfold fB1; rw [List.length_append]; rfl
theorem foldT_len (ff : List Trn → Int → List Trn) (c : Nat) : ∀ (l : List Int) (s : List Trn), (∀ s x, x ∈ l → (ff s x).length ≤ s.length + c) → (l.foldl ff s).length ≤ s.length + l.length * c
  | [], s, _ => by simp
  | x :: l, s, h => by
    have h1 := foldT_len ff c l (ff s x) fun s y hy => h s y (List.mem_cons_of_mem _ hy)
    have h2 := h s x List.mem_cons_self
    rw [List.foldl_cons, List.length_cons, Nat.succ_mul]
    omega
section
variable {P : Program} {w : World} {K : PySem.W.Frag} {mg : Str → Option Value} {base : Heap} {f : Addr} {fd : FuncData} {k : Nat} {C : Addr}
abbrev nDrawn : List Str := ["_law_pool_here", "_law_size_here", "_law_word", "_law_turns_here", "_law_a", "_law_p", "_law_widest"]
def gDrawn : GG := fun rs ow r ow' => ∃ (kp : Nat) (n : Int) (ps : List Int), rs = [.own kp, .d (.int n)] ∧ ow[kp]? = some (.l (ps.map D.int)) ∧ 1 ≤ n ∧ n ≤ 7 ∧ r = .d (.lst ((drawnZ n ps).1.map turnD)) ∧ ow' = ow.set kp (.l ((drawnZ n ps).2.map D.int))
abbrev drSt (kp : Nat) (n : Int) (wd : Int) (kt : Nat) (a p wi : Option R) : Sta := [some (.own kp), some (.d (.int n)), some (.d (.int wd)), some (.own kt), a, p, wi]
end
end Bl
set_option Elab.async false
set_option linter.all false
set_option maxRecDepth 100000
set_option maxHeartbeats 4000000
namespace Bl
open PySem PySem.Spec PyProof.Rows L2
theorem pbd_eqS {X : Cx} {st st' : Sta} {ow : List OB} {ss : List Stmt} {out : Out} (e : st = st') (h : PBD X st ow ss out) : PBD X st' ow ss out := e ▸ h
/-! ### good rows, the bad four -/
def cns (n : Int) (F : List Int → Int) : List Int := (sub3 (rngZ n)).map F
theorem tabD_F (n : Int) (F : List Int → Int) : tabD n (cns n F) = tabI (tabF n F) := by
  unfold tabD cns tabI tabF
  rw [List.map_map, List.zip_map', List.map_map]
  rfl
theorem sgA_F {n : Int} {F : List Int → Int} {q : List Int} (h : q ∈ sub3 (rngZ n)) : sgA n (cns n F) q = F q := by
  unfold sgA
  rw [tabD_F, lookI_some (lookI_F h)]
theorem lotOk_F {n : Int} {F : List Int → Int} {q : List Int} (h : q ∈ sub3 (rngZ n)) : LotOk n (cns n F) q := by
  unfold LotOk
  rw [sgA_F h, tabD_F]
  exact lookI_some (lookI_F h)
def chgI (ns : List Int) : List Int := (rngZ 3).filter fun i => !decide (gI ns i = gI ns (i + 1))
def steadyZ (ns : List Int) : Bool := !decide ((0 : Int) ∈ ns) && decide (((chgI ns).length : Int) ≤ 1)
def zerI (ns : List Int) : List Int := (rngZ 4).filter fun i => decide (gI ns i = 0)
def goodW (ns : List Int) : Bool :=
  if (zerI ns).length = 0 ∨ (zerI ns).length = 4 then decide ((zerI ns).length = 4) || steadyZ ns
  else if 1 < (zerI ns).length then false else steadyZ (ns.set ((zerI ns).headD 0).toNat (-1)) && steadyZ (ns.set ((zerI ns).headD 0).toNat 1)
theorem goodW_eq {a b c d : Int} (ha : -1 ≤ a ∧ a ≤ 1) (hb : -1 ≤ b ∧ b ≤ 1) (hc : -1 ≤ c ∧ c ≤ 1) (hd : -1 ≤ d ∧ d ≤ 1) : goodW [a, b, c, d] = goodL [a, b, c, d] := by
  have key : ∀ a ∈ [-1, 0, 1], ∀ b ∈ [-1, 0, 1], ∀ c ∈ [-1, 0, 1], ∀ d ∈ [-1, 0, 1], goodW [a, b, c, d] = goodL [a, b, c, d] := by decide +kernel
  have m : ∀ {x : Int}, -1 ≤ x ∧ x ≤ 1 → x ∈ [(-1 : Int), 0, 1] := fun h => by
    simp
    omega
  exact key a (m ha) b (m hb) c (m hc) d (m hd)
/-- all fours, as four loops walk them -/
def n4l (n : Int) : List (List Int) := (rngZ n).flatMap fun i => (upr n i).flatMap fun j => (upr n j).flatMap fun k => (upr n k).map fun m => [i, j, k, m]
theorem n4l_eq {n : Int} (h0 : 0 ≤ n) (h : n ≤ 7) : n4l n = sub4 (rngZ n) := by
  have : n = 0 ∨ n = 1 ∨ n = 2 ∨ n = 3 ∨ n = 4 ∨ n = 5 ∨ n = 6 ∨ n = 7 := by omega
  rcases this with rfl | rfl | rfl | rfl | rfl | rfl | rfl | rfl <;> decide +kernel
theorem findSome_flat {α β γ : Type} (g : α → List β) (p : β → Option γ) : ∀ l : List α, (l.flatMap g).findSome? p = l.findSome? fun x => (g x).findSome? p
  | [] => rfl
  | a :: l => by
    rw [List.flatMap_cons, List.findSome?_append, List.findSome?_cons, findSome_flat g p l]
    cases (g a).findSome? p with
    | none => rfl
    | some r => rfl
theorem findSome_if {α β : Type} (p : α → Bool) (r : α → β) : ∀ l : List α, (l.findSome? fun x => if p x = true then some (r x) else none) = (l.find? p).map r
  | [] => rfl
  | a :: l => by
    rw [List.findSome?_cons, List.find?_cons]
    cases h : p a with
    | true => rfl
    | false => simp only [if_neg (show ¬ (false = true) by decide)]; exact findSome_if p r l
def rowF (F : List Int → Int) : List Int → List Int
  | [i, j, k, m] => [F [i, j, k], F [i, j, m], F [i, k, m], F [j, k, m]]
  | _ => []
def badW (n : Int) (F : List Int → Int) : Option (List Int) := (sub4 (rngZ n)).find? fun q => !goodW (rowF F q)
theorem sub4_form {n : Int} (h0 : 0 ≤ n) (h : n ≤ 7) {q : List Int} (hq : q ∈ sub4 (rngZ n)) : ∃ i j k m, q = [i, j, k, m] ∧ 0 ≤ i ∧ i < j ∧ j < k ∧ k < m ∧ m < n := by
  rw [← n4l_eq h0 h] at hq
  unfold n4l at hq
  obtain ⟨i, hi, hq⟩ := List.mem_flatMap.mp hq
  obtain ⟨j, hj, hq⟩ := List.mem_flatMap.mp hq
  obtain ⟨k, hk, hq⟩ := List.mem_flatMap.mp hq
  obtain ⟨m, hm, rfl⟩ := List.mem_map.mp hq
  exact ⟨i, j, k, m, rfl, (mem_rngZ hi).1, (mem_upr hj).1, (mem_upr hk).1, (mem_upr hm).1, (mem_upr hm).2⟩
theorem signs4_F {n : Int} (h0 : 0 ≤ n) (h : n ≤ 7) {F : List Int → Int} {q : List Int} (hq : q ∈ sub4 (rngZ n)) : signs4 n (cns n F) q = rowF F q ∧ FourOk n (cns n F) q := by
  obtain ⟨i, j, k, m, rfl, h1, h2, h3, h4, h5⟩ := sub4_form h0 h hq
  have m1 := mem_sub3 h0 h h1 h2 h3 (by omega)
  have m2 := mem_sub3 h0 h h1 h2 (show j < m by omega) h5
  have m3 := mem_sub3 h0 h h1 (show i < k by omega) h4 h5
  have m4 := mem_sub3 h0 h (show 0 ≤ j by omega) h3 h4 h5
  refine ⟨?_, i, j, k, m, rfl, lotOk_F m1, lotOk_F m2, lotOk_F m3, lotOk_F m4⟩
  show [_, _, _, _] = [_, _, _, _]
  rw [sgA_F m1, sgA_F m2, sgA_F m3, sgA_F m4]
theorem badW_eq {n : Int} (h0 : 0 ≤ n) (h : n ≤ 7) {F : List Int → Int} (hF : SgnF F) : badW n F = badF n (cns n F) := by
  unfold badW badF
  have key : ∀ q ∈ sub4 (rngZ n), (!goodW (rowF F q)) = badQ n (cns n F) q := fun q hq => by
    unfold badQ
    rw [(signs4_F h0 h hq).1]
    obtain ⟨i, j, k, m, rfl, _⟩ := sub4_form h0 h hq
    show (!goodW [_, _, _, _]) = !goodL [_, _, _, _]
    rw [goodW_eq (hF _) (hF _) (hF _) (hF _)]
  generalize sub4 (rngZ n) = l at key
  induction l with
  | nil => rfl
  | cons a l ih =>
    rw [List.find?_cons, List.find?_cons, key a List.mem_cons_self, ih fun q hq => key q (List.mem_cons_of_mem _ hq)]
section
variable {P : Program} {w : World} {K : PySem.W.Frag} {mg : Str → Option Value} {base : Heap} {f : Addr} {fd : FuncData} {k : Nat} {C : Addr}
abbrev sSteady : Stmt := topS 46
theorem scSteady : FnScope ["_law_row", "_law_at", "_law_changes"] ["_law_row"] (defScope sSteady) := ⟨rfl, rfl, rfl, by decide +kernel, rfl, by decide +kernel, by decide +kernel⟩
def gSteady : GG := fun rs ow r ow' => ∃ ns : List Int, rs = [.d (.lst (ns.map D.int))] ∧ ns.length = 4 ∧ r = .d (.bl (steadyZ ns)) ∧ ow' = ow
theorem at4 {ns : List Int} (h : ns.length = 4) {x : Int} (h0 : 0 ≤ x) (h1 : x ≤ 3) : atI (ns.map D.int) x = some (.int (gI ns x)) := at_map (gI_ok h0 (by omega))
theorem ok_steady (F : Fun K "_law_steady" "_law_steady" sSteady f fd) (mR : mg "range" = none) (mN : mg "len" = none) : FnOk P w K mg base CX0 (k + 1) f fd ["_law_row"] (spF K gSteady) := by
  refine okF F scSteady (fun rs ow r ow' h => ?_) (fun cdv A outer s H E hr rs ow r ow' h => ?_)
  · obtain ⟨ns, rfl, _⟩ := h
    rfl
  · obtain ⟨ns, rfl, hl, rfl, rfl⟩ := h
    refine pbd_cons (psd_setLc (own := [("_law_at", 1)]) 2 (rngZ 3) D.int (fun x => [some (.d (.lst (ns.map D.int))), some (.d (.int x)), none]) (fun i => !decide (V.int (gI ns i) = V.int (gI ns (i + 1)))) D.int
        rfl scSteady.nd (pid_eq (pid_range1 mR (padd_cons pd_int padd_nil) (by decide)) (rngD_Z 3)) (blkOk_by (N := ["_law_row", "_law_at", "_law_changes"]) (sc := defScope sSteady) (by decide +kernel)) (by decide) (fun x hx _ H C' cl fp => pgd_name 1 scSteady.nd)
        (fun x hx l _ H C' cl fp => ptsd_one (ptd_ne (pd_ixL (pd_var 0) (pd_var 1) (at4 hl (mem_rngZ hx).1 (by have := mem_rngZ hx; omega))) (pd_ixL (pd_var 0) (pd_add (pd_var 1) pd_int) (at4 hl (x := x + 1) (by have := mem_rngZ hx; omega) (by have := mem_rngZ hx; omega))))) (fun x hx _ l _ H C' cl fp => pd_var 1)) ?_
    refine pbd_last (psd_ret (pd_eqB (pd_and (rest := []) (pd_cmp op_notIn_seq rfl (rd_in (neg := true) (ns := ns) rfl) pd_int (pd_var 0)) (fun _ => pd_one (pd_le (pd_lenL mN (padd_cons (pd_var 2) padd_nil)) pd_int))) ?_))
    unfold steadyZ chgI
    rw [List.length_map]
    simp only [iv_eq]
    rfl
abbrev sGood : Stmt := topS 47
abbrev nGood : List Str := ["_law_row", "_law_at", "_law_zeros", "_law_low", "_law_high"]
theorem scGood : FnScope nGood ["_law_row"] (defScope sGood) := ⟨rfl, rfl, rfl, by decide +kernel, rfl, by decide +kernel, by decide +kernel⟩
def gGood : GG := fun rs ow r ow' => ∃ ns : List Int, rs = [.d (.lst (ns.map D.int))] ∧ ns.length = 4 ∧ r = .d (.bl (goodW ns)) ∧ ow' = ow
theorem ixN_in {n : Nat} {i : Int} (h0 : 0 ≤ i) (h1 : i < n) : ixN n i = some i.toNat := by
  unfold ixN
  rw [if_pos h0, if_pos h1]
theorem ok_good (F : Fun K "_law_good" "_law_good" sGood f fd) (C1 : Fg P w K mg base "_law_steady" k ["_law_row"] gSteady) (mR : mg "range" = none) (mN : mg "len" = none) (mL : mg "list" = none) : FnOk P w K mg base CX0 (k + 1) f fd ["_law_row"] (spF K gGood) := by
  refine okF F scGood (fun rs ow r ow' h => ?_) (fun cdv A outer s H E hr rs ow r ow' h => ?_)
  · obtain ⟨ns, rfl, _⟩ := h
    rfl
  · obtain ⟨ns, rfl, hl, rfl, rfl⟩ := h
    refine pbd_cons (psd_setLc (own := [("_law_at", 1)]) 2 (rngZ 4) D.int (fun x => [some (.d (.lst (ns.map D.int))), some (.d (.int x)), none, none, none]) (fun i => decide (V.int (gI ns i) = V.int 0)) D.int
        rfl scGood.nd (pid_eq (pid_range1 mR (padd_cons pd_int padd_nil) (by decide)) (rngD_Z 4)) (blkOk_by (N := nGood) (sc := defScope sGood) (by decide +kernel)) (by decide) (fun x hx _ H C' cl fp => pgd_name 1 scGood.nd)
        (fun x hx l _ H C' cl fp => ptsd_one (ptd_eq (pd_ixL (pd_var 0) (pd_var 1) (at4 hl (mem_rngZ hx).1 (by have := mem_rngZ hx; omega))) pd_int)) (fun x hx _ l _ H C' cl fp => pd_var 1)) ?_
    have ez : ((rngZ 4).filter fun i => decide (V.int (gI ns i) = V.int 0)) = zerI ns := by
      unfold zerI
      simp only [iv_eq]
    rw [ez]
    have hz4 : ∀ x ∈ zerI ns, 0 ≤ x ∧ x < 4 := fun x hx => mem_rngZ (List.mem_filter.mp hx).1
    have hzl : (zerI ns).length ≤ 4 := by
      have := List.length_filter_le (fun i => decide (gI ns i = 0)) (rngZ 4)
      rw [rngZ_len] at this
      exact this
    unfold goodW
    generalize zerI ns = zs at hz4 hzl
    have el : ∀ c : Int, decide (V.int ((zs.map D.int).length : Int) = V.int c) = decide ((zs.length : Int) = c) := fun c => by rw [iv_eq, List.length_map]
    by_cases h04 : zs.length = 0 ∨ zs.length = 4
    · rw [if_pos h04]
      refine pbd_take (bl := true) (ptd_eqB (ptd_bool (pwd_or (ptd_eq (pd_lenL mN (padd_cons (pd_var 2) padd_nil)) pd_int) (fun _ => pwd_or1 (ptd_eq (pd_lenL mN (padd_cons (pd_var 2) padd_nil)) pd_int)))) (by
        rw [el, el]
        rcases h04 with h | h
        · rw [decide_eq_true (show (zs.length : Int) = 0 by omega)]; rfl
        · rw [decide_eq_true (show (zs.length : Int) = 4 by omega), Bool.or_true])) rfl ?_
      refine pbd_last (psd_ret (pd_eqB (pd_or (rest := []) (pd_eq (pd_lenL mN (padd_cons (pd_var 2) padd_nil)) pd_int) (fun _ => pd_one (pd_cg C1 hr (Nat.le_refl _) (padd_cons (pd_var 0) padd_nil) ⟨ns, rfl, hl, rfl, rfl⟩))) ?_))
      rw [el]
      congr 1
      exact decide_eq_decide.mpr (by omega)
    · rw [if_neg h04]
      refine pbd_skip (bl := false) (ptd_eqB (ptd_bool (pwd_or (ptd_eq (pd_lenL mN (padd_cons (pd_var 2) padd_nil)) pd_int) (fun _ => pwd_or1 (ptd_eq (pd_lenL mN (padd_cons (pd_var 2) padd_nil)) pd_int)))) (by rw [el, el, decide_eq_false (by omega), decide_eq_false (by omega)]; rfl)) rfl ?_
      by_cases h1 : 1 < zs.length
      · rw [if_pos h1]
        exact pbd_take (ptd_gt (pd_lenL mN (padd_cons (pd_var 2) padd_nil)) pd_int) (by rw [List.length_map]; exact decide_eq_true (by omega)) (pbd_last (psd_ret pd_bl))
      · rw [if_neg h1]
        refine pbd_skip (ptd_gt (pd_lenL mN (padd_cons (pd_var 2) padd_nil)) pd_int) (by rw [List.length_map]; exact decide_eq_false (by omega)) ?_
        match zs, h04, h1, hz4 with
        | [], h, _, _ => exact (h (.inl rfl)).elim
        | _ :: _ :: _, _, h, _ => exact (h (by simp)).elim
        | [z], _, _, hz =>
          have hz := hz z List.mem_cons_self
          have e0 : atI ([z].map D.int) 0 = some (D.int z) := rfl
          have hix : ixN (ns.map D.int).length z = some z.toNat := ixN_in hz.1 (by rw [List.length_map, hl]; omega)
          refine pbd_frz2 (l := (ns.set z.toNat (-1)).map D.int) (ow1 := ow') (psd_set 3 scGood.nd (pd_listO mL (pd_var 0) rfl)) (psd_ow (psd_setO (pd_neg pd_int) (pd_var 3) (pd_ixL (pd_var 2) pd_int e0) app_get hix) (by rw [set_last, List.map_set])) rfl ?_
          have eU : ∀ (l : List D), unown ow'.length l (([some (.d (.lst (ns.map D.int))), none, some (.d (.lst ([z].map D.int))), none, none] : Sta).set 3 (some (.own ow'.length))) = [some (.d (.lst (ns.map D.int))), none, some (.d (.lst ([z].map D.int))), some (.d (.lst l)), none] := fun l => by
            show [_, _, _, (if _ = _ then _ else _), _] = _
            rw [if_pos rfl]
          refine pbd_eqS (eU _).symm ?_
          refine pbd_frz2 (l := (ns.set z.toNat 1).map D.int) (ow1 := ow') (psd_set 4 scGood.nd (pd_listO mL (pd_var 0) rfl)) (psd_ow (psd_setO pd_int (pd_var 4) (pd_ixL (pd_var 2) pd_int e0) app_get hix) (by rw [set_last, List.map_set])) rfl ?_
          have eU2 : ∀ (l l2 : List D), unown ow'.length l (([some (.d (.lst (ns.map D.int))), none, some (.d (.lst ([z].map D.int))), some (.d (.lst l2)), none] : Sta).set 4 (some (.own ow'.length))) = [some (.d (.lst (ns.map D.int))), none, some (.d (.lst ([z].map D.int))), some (.d (.lst l2)), some (.d (.lst l))] := fun l l2 => by
            show [_, _, _, _, (if _ = _ then _ else _)] = _
            rw [if_pos rfl]
          refine pbd_eqS (eU2 _ _).symm ?_
          exact pbd_last (psd_ret (pd_and (rest := []) (pd_cg C1 hr (Nat.le_refl _) (padd_cons (pd_var 3) padd_nil) ⟨ns.set z.toNat (-1), rfl, by rw [List.length_set]; exact hl, rfl, rfl⟩) (fun _ => pd_one (pd_cg C1 hr (Nat.le_refl _) (padd_cons (pd_var 4) padd_nil) ⟨ns.set z.toNat 1, rfl, by rw [List.length_set]; exact hl, rfl, rfl⟩))))
end
end Bl
set_option Elab.async false
set_option linter.all false
set_option maxRecDepth 100000
set_option maxHeartbeats 4000000
namespace Bl
open PySem PySem.Spec PyProof.Rows L2
/-! ### bad_four, met, rings -/
def bad4 (F : List Int → Int) (q : List Int) : Option R := if (!goodW (rowF F q)) = true then some (.d (tupI q)) else none
def rr4 (F : List Int → Int) (i j k m : Int) : Option R := bad4 F [i, j, k, m]
def rr3 (n : Int) (F : List Int → Int) (i j k : Int) : Option R := (upr n k).findSome? (rr4 F i j k)
def rr2 (n : Int) (F : List Int → Int) (i j : Int) : Option R := (upr n j).findSome? (rr3 n F i j)
def rr1 (n : Int) (F : List Int → Int) (i : Int) : Option R := (upr n i).findSome? (rr2 n F i)
theorem rr_eq {n : Int} (h0 : 0 ≤ n) (h : n ≤ 7) (F : List Int → Int) : (rngZ n).findSome? (rr1 n F) = (badW n F).map fun q => R.d (tupI q) := by
  unfold badW
  rw [← findSome_if, ← n4l_eq h0 h]
  unfold n4l
  rw [findSome_flat]
  congr 1
  funext i
  rw [findSome_flat]
  unfold rr1
  congr 1
  funext j
  rw [findSome_flat]
  unfold rr2
  congr 1
  funext k
  rw [List.findSome?_map]
  rfl
def metW (F : List Int → Int) (x y z : Int) : Int := if y < z then F (isort [x, y, z]) else -F (isort [x, y, z])
def mkW (F : List Int → Int) (x a b c : Int) : Bool := decide (0 ≤ lmin [metW F x a b, metW F x b c, metW F x c a]) && decide (0 < lmax [metW F x a b, metW F x b c, metW F x c a])
theorem ins1_1 (x a : Int) : ins1 x [a] = if x ≤ a then [x, a] else [a, x] := rfl
theorem ins1_2 (x a b : Int) : ins1 x [a, b] = if x ≤ a then [x, a, b] else a :: (if x ≤ b then [x, b] else [b, x]) := rfl
theorem isort_mem {n x y z : Int} (h0 : 0 ≤ n) (h : n ≤ 7) (hx : 0 ≤ x ∧ x < n) (hy : 0 ≤ y ∧ y < n) (hz : 0 ≤ z ∧ z < n) (h1 : x ≠ y) (h2 : y ≠ z) (h3 : x ≠ z) : isort [x, y, z] ∈ sub3 (rngZ n) := by
  show ins1 x (ins1 y [z]) ∈ _
  rw [ins1_1]
  by_cases hyz : y ≤ z
  · rw [if_pos hyz, ins1_2]
    by_cases hxy : x ≤ y
    · rw [if_pos hxy]
      exact mem_sub3 h0 h hx.1 (by omega) (by omega) hz.2
    · rw [if_neg hxy]
      by_cases hxz : x ≤ z
      · rw [if_pos hxz]
        exact mem_sub3 h0 h hy.1 (by omega) (by omega) hz.2
      · rw [if_neg hxz]
        exact mem_sub3 h0 h hy.1 (by omega) (by omega) hx.2
  · rw [if_neg hyz, ins1_2]
    by_cases hxz : x ≤ z
    · rw [if_pos hxz]
      exact mem_sub3 h0 h hx.1 (by omega) (by omega) hy.2
    · rw [if_neg hxz]
      by_cases hxy : x ≤ y
      · rw [if_pos hxy]
        exact mem_sub3 h0 h hz.1 (by omega) (by omega) hy.2
      · rw [if_neg hxy]
        exact mem_sub3 h0 h hz.1 (by omega) (by omega) hx.2
section
variable {P : Program} {w : World} {K : PySem.W.Frag} {mg : Str → Option Value} {base : Heap} {f : Addr} {fd : FuncData} {k : Nat} {C : Addr}
abbrev sBad4 : Stmt := topS 48
abbrev nBad4 : List Str := ["_law_size_here", "_law_table_here", "_law_i", "_law_j", "_law_k", "_law_m", "_law_row"]
theorem scBad4 : FnScope nBad4 ["_law_size_here", "_law_table_here"] (defScope sBad4) := ⟨rfl, rfl, rfl, by decide +kernel, rfl, by decide +kernel, by decide +kernel⟩
def gBad4 : GG := fun rs ow r ow' => ∃ (n : Int) (F : List Int → Int), rs = [.d (.int n), .d (.dT (tabI (tabF n F)))] ∧ 0 ≤ n ∧ n ≤ 7 ∧ r = .d (optD (badW n F)) ∧ ow' = ow
abbrev b4St (n : Int) (F : List Int → Int) (i j k m row : Option R) : Sta := [some (.d (.int n)), some (.d (.dT (tabI (tabF n F)))), i, j, k, m, row]
theorem ok_bad4 (F : Fun K "_law_bad_four" "_law_bad_four" sBad4 f fd) (C1 : Fg P w K mg base "_law_good" k ["_law_row"] gGood) (mR : mg "range" = none) : FnOk P w K mg base CX0 (k + 1) f fd ["_law_size_here", "_law_table_here"] (spF K gBad4) := by
  refine okF F scBad4 (fun rs ow r ow' h => ?_) (fun cdv A outer s H E hr rs ow r ow' h => ?_)
  · obtain ⟨n, F, rfl, _⟩ := h
    rfl
  · obtain ⟨n, F, rfl, h0, h1, rfl, rfl⟩ := h
    have hu := room_u hr
    have he := rr_eq h0 h1 F
    refine pbd_forS [2] (b4St n F none none none none none) (rngZ n) D.int (rr1 n F) (fun i => b4St n F (some (.d (.int i))) none none none none) PassesOwn.never rfl (pid_eq (pid_range1 mR (padd_cons (pd_var 0) padd_nil) (by omega)) (rngD_Z n)) ⟨rfl, fun i r h => h⟩ (fun i hi => pgd_name 2 scBad4.nd) (fun i hi => ?_) (fun hn => ?_) (fun r hs => ?_)
    · have hi := mem_rngZ hi
      refine pbd_forS [3] (b4St n F (some (.d (.int i))) none none none none) (upr n i) D.int (rr2 n F i) (fun j => b4St n F (some (.d (.int i))) (some (.d (.int j))) none none none) PassesOwn.never rfl (pid_eq (pid_range2 mR (padd_cons (pd_add (pd_var 2) pd_int) (padd_cons (pd_var 0) padd_nil)) (by omega) (by omega)) (rgZ_D _ _)) ⟨rfl, fun i r h => h⟩ (fun i hi => pgd_name 3 scBad4.nd) (fun j hj => ?_)
        (fun hn => by rw [show rr1 n F i = none from hn]; exact pbd_weak pbd_nil rfl (by (intro i r h; rcases i with _ | _ | _ | _ | _ | _ | _ | i <;> first | exact h | cases h))) (fun r hs => by rw [show rr1 n F i = some r from hs]; rfl)
      have hj := mem_upr hj
      refine pbd_forS [4] (b4St n F (some (.d (.int i))) (some (.d (.int j))) none none none) (upr n j) D.int (rr3 n F i j) (fun k => b4St n F (some (.d (.int i))) (some (.d (.int j))) (some (.d (.int k))) none none) PassesOwn.never rfl (pid_eq (pid_range2 mR (padd_cons (pd_add (pd_var 3) pd_int) (padd_cons (pd_var 0) padd_nil)) (by omega) (by omega)) (rgZ_D _ _)) ⟨rfl, fun i r h => h⟩ (fun i hi => pgd_name 4 scBad4.nd) (fun k hk => ?_)
        (fun hn => by rw [show rr2 n F i j = none from hn]; exact pbd_weak pbd_nil rfl (by (intro i r h; rcases i with _ | _ | _ | _ | _ | _ | _ | i <;> first | exact h | cases h))) (fun r hs => by rw [show rr2 n F i j = some r from hs]; rfl)
      have hk := mem_upr hk
      refine pbd_forS [5] (b4St n F (some (.d (.int i))) (some (.d (.int j))) (some (.d (.int k))) none none) (upr n k) D.int (rr4 F i j k) (fun m => b4St n F (some (.d (.int i))) (some (.d (.int j))) (some (.d (.int k))) (some (.d (.int m))) none) PassesOwn.never rfl (pid_eq (pid_range2 mR (padd_cons (pd_add (pd_var 4) pd_int) (padd_cons (pd_var 0) padd_nil)) (by omega) (by omega)) (rgZ_D _ _)) ⟨rfl, fun i r h => h⟩ (fun i hi => pgd_name 5 scBad4.nd) (fun m hm => ?_)
        (fun hn => by rw [show rr3 n F i j k = none from hn]; exact pbd_weak pbd_nil rfl (by (intro i r h; rcases i with _ | _ | _ | _ | _ | _ | _ | i <;> first | exact h | cases h))) (fun r hs => by rw [show rr3 n F i j k = some r from hs]; rfl)
      have hm := mem_upr hm
      have m1 := mem_sub3 h0 h1 hi.1 hj.1 hk.1 hk.2
      have m2 := mem_sub3 h0 h1 hi.1 hj.1 (show j < m by omega) hm.2
      have m3 := mem_sub3 h0 h1 hi.1 (show i < k by omega) hm.1 hm.2
      have m4 := mem_sub3 h0 h1 (show 0 ≤ j by omega) hk.1 hm.1 hm.2
      refine pbd_cons (psd_set 6 scBad4.nd (pd_eqD (pd_lst (padd_cons (pd_getT (ns := [i, j, k]) hu (pd_var 1) (pd_tup (padd_cons (pd_var 2) (padd_cons (pd_var 3) (padd_cons (pd_var 4) padd_nil)))) (lookI_some (lookI_F m1))) (padd_cons (pd_getT (ns := [i, j, m]) hu (pd_var 1) (pd_tup (padd_cons (pd_var 2) (padd_cons (pd_var 3) (padd_cons (pd_var 5) padd_nil)))) (lookI_some (lookI_F m2)))
        (padd_cons (pd_getT (ns := [i, k, m]) hu (pd_var 1) (pd_tup (padd_cons (pd_var 2) (padd_cons (pd_var 4) (padd_cons (pd_var 5) padd_nil)))) (lookI_some (lookI_F m3))) (padd_cons (pd_getT (ns := [j, k, m]) hu (pd_var 1) (pd_tup (padd_cons (pd_var 3) (padd_cons (pd_var 4) (padd_cons (pd_var 5) padd_nil)))) (lookI_some (lookI_F m4))) padd_nil))))) (d' := .lst ((rowF F [i, j, k, m]).map D.int)) rfl)) ?_
      unfold rr4 bad4
      cases hg : goodW (rowF F [i, j, k, m]) with
      | true =>
        exact pbd_weak (st1 := b4St n F (some (.d (.int i))) (some (.d (.int j))) (some (.d (.int k))) (some (.d (.int m))) (some (.d (.lst ((rowF F [i, j, k, m]).map D.int))))) (pbd_skip (ptd_not (ptd_val (pd_cg C1 hr (Nat.le_refl _) (padd_cons (pd_var 6) padd_nil) ⟨rowF F [i, j, k, m], rfl, rfl, rfl, rfl⟩))) (by rw [hg]; rfl) pbd_nil) rfl (by (intro i r h; rcases i with _ | _ | _ | _ | _ | _ | _ | i <;> first | exact h | cases h))
      | false =>
        exact pbd_take (ptd_not (ptd_val (pd_cg C1 hr (Nat.le_refl _) (padd_cons (pd_var 6) padd_nil) ⟨rowF F [i, j, k, m], rfl, rfl, rfl, rfl⟩))) (by rw [hg]; rfl) (pbd_last (psd_ret (pd_tup (padd_cons (pd_var 2) (padd_cons (pd_var 3) (padd_cons (pd_var 4) (padd_cons (pd_var 5) padd_nil)))))))
    · rw [he] at hn
      cases hb : badW n F with
      | none => exact pbd_last (psd_ret pd_non)
      | some q => rw [hb] at hn; cases hn
    · rw [he] at hs
      cases hb : badW n F with
      | none => rw [hb] at hs; cases hs
      | some q => rw [hb] at hs; cases hs; rfl
abbrev nLMet : List Str := ["_law_table_here", "_law_x", "_law_y", "_law_z", "_law_three", "_law_sign"]
def gLMetW : GG := fun rs ow r ow' => ∃ (n : Int) (F : List Int → Int) (x y z : Int), rs = [.d (.dT (tabI (tabF n F))), .d (.int x), .d (.int y), .d (.int z)] ∧ isort [x, y, z] ∈ sub3 (rngZ n) ∧ 0 ≤ n ∧ n ≤ 7 ∧ r = .d (.int (metW F x y z)) ∧ ow' = ow
abbrev nLMk : List Str := ["_law_size_here", "_law_table_here", "_law_x", "_law_told", "_law_name", "_law_a", "_law_b", "_law_c", "_law_ways"]
structure DOk (n x a b c : Int) : Prop where
  hx : 0 ≤ x ∧ x < n
  ha : 0 ≤ a ∧ a < n
  hb : 0 ≤ b ∧ b < n
  hc : 0 ≤ c ∧ c < n
  ab : a ≠ b
  bc : b ≠ c
  ac : a ≠ c
  xa : x ≠ a
  xb : x ≠ b
  xc : x ≠ c
def gLMkW : GG := fun rs ow r ow' => ∃ (n : Int) (F : List Int → Int) (x a b c : Int), rs = [.d (.int n), .d (.dT (tabI (tabF n F))), .d (.int x), .d (tupI [a, b, c])] ∧ DOk n x a b c ∧ 0 ≤ n ∧ n ≤ 7 ∧ r = .d (.bl (mkW F x a b c)) ∧ ow' = ow
abbrev mkSt (n : Int) (F : List Int → Int) (x a b c : Int) (name a' b' c' ws : Option R) : Sta := [some (.d (.int n)), some (.d (.dT (tabI (tabF n F)))), some (.d (.int x)), some (.d (tupI [a, b, c])), name, a', b', c', ws]
abbrev nLHas : List Str := ["_law_size_here", "_law_table_here", "_law_x", "_law_y", "_law_others", "_law_a", "_law_b", "_law_c"]
def hasP (F : List Int → Int) (x a b c : Int) : Bool := decide (a < b) && (decide (a < c) && (!decide (b = c) && mkW F x a b c))
def hasW (n : Int) (F : List Int → Int) (x : Int) : Bool := (othersZ n x).any fun a => (othersZ n x).any fun b => (othersZ n x).any fun c => hasP F x a b c
def gLHasW : GG := fun rs ow r ow' => ∃ (n : Int) (F : List Int → Int) (x : Int), rs = [.d (.int n), .d (.dT (tabI (tabF n F))), .d (.int x)] ∧ 0 ≤ x ∧ x < n ∧ n ≤ 7 ∧ r = .d (.bl (hasW n F x)) ∧ ow' = ow
theorem mem_others {n x y : Int} (h : y ∈ othersZ n x) : (0 ≤ y ∧ y < n) ∧ y ≠ x := by
  obtain ⟨h1, h2⟩ := List.mem_filter.mp h
  rw [iv_eq] at h2
  refine ⟨mem_rngZ h1, ?_⟩
  simpa using h2
theorem findSome_any {α β : Type} (p : α → Bool) (r : β) : ∀ l : List α, (l.findSome? fun x => if p x = true then some r else none) = if l.any p = true then some r else none
  | [] => rfl
  | a :: l => by
    rw [List.findSome?_cons, List.any_cons]
    cases h : p a with
    | true => rfl
    | false => simp only [if_neg (show ¬ (false = true) by decide), Bool.false_or]; exact findSome_any p r l
abbrev hsSt (n : Int) (F : List Int → Int) (x : Int) (a b c : Option R) : Sta := [some (.d (.int n)), some (.d (.dT (tabI (tabF n F)))), some (.d (.int x)), none, some (.d (.lst ((othersZ n x).map D.int))), a, b, c]
end
end Bl
set_option Elab.async false
set_option linter.all false
set_option maxRecDepth 100000
set_option maxHeartbeats 4000000
namespace Bl
open PySem PySem.Spec PyProof.Rows L2
/-! ### == of tuples of tuples of ints -/
def tup2 (l : List (List Int)) : List D := l.map tupI
theorem dens_tup2 {K : PySem.W.Frag} {S : List Addr} {H : Hp} : ∀ {xs : List V} {l : List (List Int)}, Dens K S H xs (tup2 l) → DpAll K H xs (l.map fun ns => PyData.tuple (ns.map PyData.int))
  | [], [], _ => .nil
  | [], _ :: _, h => nomatch h
  | _ :: _, [], h => nomatch h
  | x :: xs, ns :: l, h => by
    have h' : Dens K S H (x :: xs) (tupI ns :: tup2 l) := h
    obtain ⟨h1, h2⟩ := h'.uncons
    obtain ⟨a, ys, rfl, g1, g2⟩ := h1.of_tup rfl
    have e := Dens.ints g2
    subst e
    exact .cons (.tup g1 (dp_ints ns)) (dens_tup2 h2)
theorem eqv_t2 : ∀ l m : List (List Int), PyData.eqvAll (l.map fun ns => PyData.tuple (ns.map PyData.int)) (m.map fun ns => PyData.tuple (ns.map PyData.int)) = decide (l = m)
  | [], [] => by rfl
  | [], m :: ms => by rfl
  | n :: ns, [] => by rfl
  | n :: ns, m :: ms => by
    show (PyData.eqvAll (n.map PyData.int) (m.map PyData.int) && PyData.eqvAll _ _) = _
    rw [eqv_t2 ns ms, eqv_ints]
    by_cases h : n = m <;> simp [h]
theorem depth_t2 : ∀ l : List (List Int), PyData.depthAll (l.map fun ns => PyData.tuple (ns.map PyData.int)) ≤ 2
  | [] => by simp [PyData.depthAll]
  | n :: ns => by
    have := depth_t2 ns
    have h1 := depth_ints n
    have h2 : PyData.depth (.tuple (n.map PyData.int)) = PyData.depthAll (n.map PyData.int) + 1 := rfl
    simp only [List.map_cons, PyData.depthAll]
    rw [h2]
    omega
theorem lay_t2 : ∀ l : List (List Int), PyData.canLayAll0 (l.map fun ns => PyData.tuple (ns.map PyData.int)) = true
  | [] => by simp [PyData.canLayAll0]
  | n :: ns => by
    have := lay_t2 ns
    have h1 : PyData.canLay0 (.tuple (n.map PyData.int)) = true := lay_ints n
    simp only [List.map_cons, PyData.canLayAll0, this, h1, Bool.and_true]
theorem shaped_t2 (l : List (List Int)) : SeqAt.shaped (.tuple (l.map fun ns => PyData.tuple (ns.map PyData.int))) = true := by
  have := depth_t2 l
  have h1 : PyData.canLay0 (.tuple (l.map fun ns => PyData.tuple (ns.map PyData.int))) = true := lay_t2 l
  have h2 : PyData.depth (.tuple (l.map fun ns => PyData.tuple (ns.map PyData.int))) = PyData.depthAll (l.map fun ns => PyData.tuple (ns.map PyData.int)) + 1 := rfl
  unfold SeqAt.shaped
  rw [h1, h2]
  simp only [Bool.true_and, decide_eq_true_eq]
  omega
theorem rd_eqT2 {K : PySem.W.Frag} {x y : D} {l m : List (List Int)} (hx : tupL x = some (tup2 l)) (hy : tupL y = some (tup2 m)) : RD K (rEqD K) x y (.bl (decide (l = m))) := fun S H ow vx vy Q o dx dy q => by
  obtain ⟨a, xs, rfl, h1, h2⟩ := dx.of_tup hx
  obtain ⟨b, ys, rfl, h3, h4⟩ := dy.of_tup hy
  refine ⟨_, _, .tup h1 (dens_tup2 h2), .tup h3 (dens_tup2 h4), shaped_t2 l, shaped_t2 m, ?_⟩
  have e3 : PyData.eqv (.tuple (l.map fun ns => PyData.tuple (ns.map PyData.int))) (.tuple (m.map fun ns => PyData.tuple (ns.map PyData.int))) = decide (l = m) := eqv_t2 l m
  rw [e3]
  exact q _ _ (Evl.Ex.refl H) (.bl _)
section
variable {X : Cx} {a b : Expr} {st : Sta} {ow ow1 ow2 : List OB} {pos : Pos} {x y : D} {l m : List (List Int)}
theorem pd_eqT2 (hu : X.A.units + 64 < cLine) (ha : PD X st ow a (.d x) ow1) (hb : PD X st ow1 b (.d y) ow2) (hx : tupL x = some (tup2 l)) (hy : tupL y = some (tup2 m)) : PD X st ow (.Compare a [.Eq] [b] pos) (.d (.bl (decide (l = m)))) ow2 := pd_cmp (op_eqD hu) (nomark _) (rd_eqT2 hx hy) ha hb
end
theorem psd_eqO {X : Cx} {st : Sta} {ow : List OB} {s : Stmt} {st1 : Sta} {owA owB : List OB} (h : PSD X st ow s (.nx st1 owA)) (e : owA = owB) : PSD X st ow s (.nx st1 owB) := e ▸ h
/-! ### levels -/
def rkW (F : List Int → Int) (x : Int) (os : List Int) (y : Int) : Int := ((os.filter fun z => !decide (z = y) && decide (metW F x z y = 1)).length : Int)
def lvR (F : List Int → Int) (x : Int) (os : List Int) (r : Int) : List Int := os.filter fun y => decide (rkW F x os y = r)
def lvW (n : Int) (F : List Int → Int) (x : Int) : List (List Int) := ((rngZ n).map (lvR F x (othersZ n x))).filter fun l => !l.isEmpty
def lvStep (F : List Int → Int) (x : Int) (os : List Int) (s : List (List Int)) (r : Int) : List (List Int) := if (lvR F x os r).isEmpty then s else s ++ [lvR F x os r]
theorem lv_fold (F : List Int → Int) (x : Int) (os : List Int) : ∀ (rs : List Int) (s : List (List Int)), rs.foldl (lvStep F x os) s = s ++ (rs.map (lvR F x os)).filter fun l => !l.isEmpty
  | [], s => by simp
  | r :: rs, s => by
    rw [List.foldl_cons, lv_fold F x os rs, List.map_cons, List.filter_cons]
    unfold lvStep
    cases h : (lvR F x os r).isEmpty with
    | true => simp
    | false => simp
theorem gI_map (g : Int → Int) (os : List Int) (i : Int) (h0 : 0 ≤ i) (h1 : i.toNat < os.length) : gI (os.map g) i = g (gI os i) := by
  rw [gI_get h0 (by rw [List.length_map]; exact h1), gI_get h0 h1, List.getElem_map]
theorem rng_map_gI (os : List Int) : (rngZ (os.length : Int)).map (gI os) = os := by
  apply List.ext_getElem
  · rw [List.length_map, rngZ_len]; omega
  · intro i h1 h2
    rw [List.getElem_map]
    have e : (rngZ (os.length : Int))[i]'(by rw [List.length_map] at h1; exact h1) = (i : Int) := by
      unfold rngZ
      rw [List.getElem_map, List.getElem_range]
      omega
    rw [e, gI_get (by omega) (by omega)]
    congr 1
theorem lvR_idx (F : List Int → Int) (x : Int) (os : List Int) (r : Int) : ((rngZ (os.length : Int)).filter fun i => decide (gI (os.map (rkW F x os)) i = r)).map (gI os) = lvR F x os r := by
  have e : ((rngZ (os.length : Int)).filter fun i => decide (gI (os.map (rkW F x os)) i = r)) = (rngZ (os.length : Int)).filter ((fun y => decide (rkW F x os y = r)) ∘ gI os) := by
    refine List.filter_congr fun i hi => ?_
    have := mem_rngZ hi
    rw [gI_map _ _ _ this.1 (by omega)]
    rfl
  rw [e, ← List.filter_map, rng_map_gI]
  rfl
section
variable {P : Program} {w : World} {K : PySem.W.Frag} {mg : Str → Option Value} {base : Heap} {f : Addr} {fd : FuncData} {k : Nat} {C : Addr}
abbrev nLLev : List Str := ["_law_size_here", "_law_table_here", "_law_x", "_law_y", "_law_others", "_law_ranks", "_law_z", "_law_levels_here", "_law_rank", "_law_at", "_law_level"]
def gLLev : GG := fun rs ow r ow' => ∃ (n : Int) (F : List Int → Int) (x : Int), rs = [.d (.int n), .d (.dT (tabI (tabF n F))), .d (.int x)] ∧ 0 ≤ x ∧ x < n ∧ n ≤ 7 ∧ r = .d (.tup (tup2 (lvW n F x))) ∧ ow' = ow
abbrev lvSt (n : Int) (F : List Int → Int) (x : Int) (y rk z lv rank at_ level : Option R) : Sta := [some (.d (.int n)), some (.d (.dT (tabI (tabF n F)))), some (.d (.int x)), y, some (.d (.lst ((othersZ n x).map D.int))), rk, z, lv, rank, at_, level]
theorem others_len {n x : Int} : (othersZ n x).length ≤ n.toNat := by
  have := List.length_filter_le (fun y => !decide (V.int y = V.int x)) (rngZ n)
  rw [rngZ_len] at this
  exact this
set_option maxHeartbeats 16000000 in
end
end Bl
set_option Elab.async false
set_option linter.all false
set_option maxRecDepth 100000
set_option maxHeartbeats 4000000
namespace Bl
open PySem PySem.Spec PyProof.Rows L2
/-! ### dicts from ints to mutable lists -/
def lookG (gs : List (Int × Nat)) (i : Int) : Option Nat := (gs.find? fun g => decide (g.1 = i)).map (·.2)
theorem gr_val {S : List Addr} {i : Int} : ∀ {kvs : List (Key × V)} {gs : List (Int × Nat)}, Paired (GR S) kvs gs → (∀ k, lookG gs i = some k → ∃ b, valV kvs (Sum.inl i) = some (.ref b) ∧ S[k]? = some b) ∧ (lookG gs i = none → valV kvs (Sum.inl i) = none)
  | _, _, .nil => ⟨fun k h => (nomatch h), fun _ => rfl⟩
  | _, _, @Paired.cons _ _ _ kv g kvs gs hr t => by
    obtain ⟨h1, b, h2, h3⟩ := hr
    obtain ⟨i1, i2⟩ := gr_val (i := i) t
    have e : decide (kv.1 = Sum.inl i) = decide (g.1 = i) := by
      rw [h1]
      by_cases h : g.1 = i
      · rw [h]; simp
      · rw [decide_eq_false h, decide_eq_false fun z => h (Sum.inl.inj z)]
    unfold lookG valV at *
    rw [List.find?_cons, List.find?_cons, e]
    cases hd : decide (g.1 = i) with
    | true =>
      refine ⟨fun k hk => ?_, fun hk => ?_⟩
      · cases hk
        exact ⟨b, congrArg some h2, h3⟩
      · cases hk
    | false => exact ⟨i1, i2⟩
theorem paired_len' {α β : Type} {F : α → β → Prop} : ∀ {l : List α} {m : List β}, Paired F l m → l.length = m.length
  | _, _, .nil => rfl
  | _, _, .cons _ t => congrArg (· + 1) (paired_len' t)
theorem gr_keys {S : List Addr} : ∀ {kvs : List (Key × V)} {gs : List (Int × Nat)}, Paired (GR S) kvs gs → kvs.map (·.1) = (gs.map (·.1)).map Sum.inl
  | _, _, .nil => rfl
  | _, _, .cons h t => by
    rw [List.map_cons, List.map_cons, List.map_cons, h.1, gr_keys t]
section
variable {K : PySem.W.Frag} {S : List Addr} {H : Hp}
theorem own_g {ow : List OB} {v : V} {k : Nat} {gs : List (Int × Nat)} (o : Owns K S H ow) (h : DenR K S H v (.own k)) (hk : ow[k]? = some (.g gs)) : ∃ a kvs, v = .ref a ∧ S[k]? = some a ∧ H a = some (.dK kvs) ∧ Paired (GR S) kvs gs := by
  cases h with
  | own h =>
    obtain ⟨a, z, y⟩ := o.ob k _ hk
    rw [h] at z
    cases z
    cases y with
    | g y r => exact ⟨_, _, rfl, h, y, r⟩
theorem Fwd.upd {S : List Addr} {H : Hp} {a : Addr} {u : HO} (ex : ExS S H (upd H a u)) : Fwd S H S (upd H a u) := ⟨⟨[], (List.append_nil _).symm, fun _ z => nomatch z⟩, ex⟩
/-- many mutable things are let go -/
theorem drop_many {S S' : List Addr} {H' : Hp} {ow ow1 bs : List OB} (f : Fwd S H S' H') (o : Owns K S H ow) (o' : Owns K S' H' (ow1 ++ bs)) (hl : ow.length = ow1.length) (hb : KeepG ow ow1) :
    Fwd S H S H' ∧ Owns K S H' ow1 ∧ ∀ a, a ∈ S → a ∈ S' := by
  have hl1 := o.len
  obtain ⟨ps, e, hp⟩ := f.gr
  subst e
  have hsub : ∀ a, a ∈ S → a ∈ S ++ ps := fun a h => List.mem_append_left _ h
  refine ⟨⟨⟨[], (List.append_nil S).symm, fun _ z => nomatch z⟩, f.ex⟩, ⟨by omega, o.nd, fun k l' ek => ?_⟩, hsub⟩
  have hk : k < ow1.length := (List.getElem?_eq_some_iff.mp ek).1
  obtain ⟨a, z, y⟩ := o'.ob k l' (by rw [List.getElem?_append_left hk]; exact ek)
  rw [List.getElem?_append_left (by omega)] at z
  refine ⟨a, z, ?_⟩
  cases y with
  | l h r => exact .l h (r.less hsub)
  | t h r => exact .t h (DenG.less hsub r)
  | @g kvs gs h r =>
    refine .g h (paired_map r fun x y hy hx => ?_)
    obtain ⟨h1, b, h2, h3⟩ := hx
    refine ⟨h1, b, h2, ?_⟩
    obtain ⟨k0, hk0, e0⟩ := List.getElem_of_mem (hb.1 gs (List.mem_of_getElem? ek))
    obtain ⟨a0, z0, y0⟩ := o.ob k0 (.g gs) (by rw [List.getElem?_eq_getElem hk0, e0])
    cases y0 with
    | g h0 r0 =>
      obtain ⟨x0, _, _, b0, _, q3⟩ := paired_mem r0 hy
      have hlt : y.2 < S.length := (List.getElem?_eq_some_iff.mp q3).1
      rwa [List.getElem?_append_left hlt] at h3
  | @r kvs gs h r =>
    refine .r h (paired_map r fun x y hy hx => ?_)
    obtain ⟨h1, b, h2, h3⟩ := hx
    refine ⟨h1, b, h2, ?_⟩
    obtain ⟨k0, hk0, e0⟩ := List.getElem_of_mem (hb.2 gs (List.mem_of_getElem? ek))
    obtain ⟨a0, z0, y0⟩ := o.ob k0 (.r gs) (by rw [List.getElem?_eq_getElem hk0, e0])
    cases y0 with
    | r h0 r0 =>
      obtain ⟨x0, _, _, b0, _, q3⟩ := paired_mem r0 hy
      have hlt : y.2 < S.length := (List.getElem?_eq_some_iff.mp q3).1
      rwa [List.getElem?_append_left hlt] at h3
end
section
variable {X : Cx} {e a b c o : Expr} {es : List Expr} {st st1 st2 : Sta} {ow ow1 ow2 ow3 bs : List OB} {r : R} {d : D} {pos p apos cpos lpos : Pos} {k k' : Nat} {gs : List (Int × Nat)} {i : Int} {ss : List Stmt}
theorem pbd_dropN (h : PBD X st ow ss (.ret (.d d) (ow1 ++ bs))) (hl : ow.length = ow1.length) (hb : KeepG ow ow1 := by first | exact ⟨fun _ h => h, fun _ h => h⟩ | (refine ⟨?_, ?_⟩ <;> (intro gs h; simp at h ⊢; assumption))) : PBD X st ow ss (.ret (.d d) ow1) :=
  h.imp fun E σ H ⟨S, sl, o, q⟩ => ⟨S, sl, o, fun S1 v H1 f1 o1 d1 => by
    obtain ⟨g1, g2, g3⟩ := drop_many f1 o o1 hl hb
    cases d1 with
    | d d1 => exact q S v H1 g1 g2 (.d (d1.less g3))⟩
/-- {} as a dict from ints to mutable lists -/
theorem pd_newG : PD X st ow (.Dict [] [] pos) (.own ow.length) (ow ++ [.g []]) :=
  (pe_dnewK).imp fun σ H Q ⟨S, sl, o, q⟩ p hp => by
    obtain ⟨f, o2, d2⟩ := own_newB o hp (.g upd_same .nil)
    exact q _ _ _ f o2 d2
/-- d[i] -/
theorem pd_getG (hu : X.A.units + 1 < cLine) (ho : PD X st ow a (.own k) ow1) (hi : PD X st ow1 b (.d (.int i)) ow2) (hk : ow2[k]? = some (.g gs)) (hl : lookG gs i = some k') (hs : NoSl b := by exact fun _ _ => rfl) : PD X st ow (.Subscript a b pos) (.own k') ow2 :=
  (pe_dget hu ho hi hs).imp fun σ H Q ⟨S, sl, o, q⟩ => ⟨S, sl, o, fun S1 v1 H1 f1 o1 d1 => ⟨S1, f1.slots sl, o1, fun S2 v2 H2 f2 o2 d2 => by
    obtain ⟨a, kvs, rfl, g1, g2, g3⟩ := own_g o2 (f2.denR d1) hk
    cases d2 with
    | d d2 =>
      obtain ⟨b', h1, h2⟩ := (gr_val (i := i) g3).1 k' hl
      rw [d2.of_int]
      have hg := DGet.k (H := H2) (k := Sum.inl i) g2
      rw [h1] at hg
      exact ⟨a, .ref b', rfl, hg, q S2 _ H2 (f1.trans o1 f2) o2 (.own h2)⟩⟩⟩
theorem m2_of {o e f : Expr} {m : Str} {apos cpos : Pos} (h1 : attributeBase o m X.env (eval o X.env) = eval o X.env) (h3 : (apos.endLine == cpos.line) = true) (h4 : starEach [e, f] X.env = [(false, eval e X.env), (false, eval f X.env)]) : M2 X o m apos e f cpos where
  base := h1
  few := by rw [h4]; rfl
  line := h3
  trees := by rw [h4]; rfl
/-- d.setdefault(i, []), i is there -/
theorem pd_setdO (ho : PD X st ow o (.own k) ow1) (he : PD X st ow1 e (.d (.int i)) ow1) (hk : ow1[k]? = some (.g gs)) (hl : lookG gs i = some k') (hz : gs.length < 100000)
    (h1 : attributeBase o "setdefault" X.env (eval o X.env) = eval o X.env := by rfl) (h3 : (apos.endLine == cpos.line) = true := by rfl) (h4 : starEach [e, .List [] lpos] X.env = [(false, eval e X.env), (false, eval (.List [] lpos) X.env)] := by rfl) :
    PD X st ow (.Call (.Attribute o "setdefault" apos) [e, .List [] lpos] [] cpos) (.own k') ow1 :=
  (pe_dsetd ho he (pd_lstO (st := st) (ow := ow1) (ow1 := ow1) (ds := []) padd_nil) (m2_of h1 h3 h4)).imp fun σ H Q ⟨S, sl, o, q⟩ => ⟨S, sl, o, fun S1 v1 H1 f1 o1 d1 => by
    obtain ⟨a, kvs, rfl, g1, g2, g3⟩ := own_g o1 d1 hk
    refine ⟨a, rfl, .inl ⟨kvs, .inl g2⟩, S1, f1.slots sl, o1, fun S2 v2 H2 f2 o2 d2 => ⟨S2, (f1.trans o1 f2).slots sl, o2, fun S3 v3 H3 f3 o3 d3 => ?_⟩⟩
    obtain ⟨q0, q1, q2, q3, q4, _⟩ := drop_lastB f3 o2 o3 rfl ⟨fun _ h => h, fun _ h => h⟩
    have f13 := f1.trans o1 (f2.trans o2 q3)
    obtain ⟨a', kvs', e', k1, k2, k3⟩ := own_g q4 (q3.denR (f2.denR (.own g1))) hk
    cases e'
    cases d2 with
    | d d2 =>
      obtain ⟨b', h1', h2'⟩ := (gr_val (i := i) k3).1 k' hl
      refine ⟨kvs', Sum.inl i, k2, d2.of_int, by rw [paired_len' k3]; exact Evl.sz_lt hz, fun v hv => ?_, fun hn => ?_⟩
      · rw [h1'] at hv
        cases hv
        exact q S2 _ H3 f13 q4 (.own h2')
      · rw [h1'] at hn
        cases hn⟩
/-- d.setdefault(i, []), i is new -/
theorem pd_setdN (ho : PD X st ow o (.own k) ow1) (he : PD X st ow1 e (.d (.int i)) ow1) (hk : ow1[k]? = some (.g gs)) (hl : lookG gs i = none) (hz : gs.length < 100000)
    (h1 : attributeBase o "setdefault" X.env (eval o X.env) = eval o X.env := by rfl) (h3 : (apos.endLine == cpos.line) = true := by rfl) (h4 : starEach [e, .List [] lpos] X.env = [(false, eval e X.env), (false, eval (.List [] lpos) X.env)] := by rfl) :
    PD X st ow (.Call (.Attribute o "setdefault" apos) [e, .List [] lpos] [] cpos) (.own ow1.length) (ow1.set k (.g (gs ++ [(i, ow1.length)])) ++ [.l []]) :=
  (pe_dsetd ho he (pd_lstO (st := st) (ow := ow1) (ow1 := ow1) (ds := []) padd_nil) (m2_of h1 h3 h4)).imp fun σ H Q ⟨S, sl, o, q⟩ => ⟨S, sl, o, fun S1 v1 H1 f1 o1 d1 => by
    obtain ⟨a, kvs, rfl, g1, g2, g3⟩ := own_g o1 d1 hk
    refine ⟨a, rfl, .inl ⟨kvs, .inl g2⟩, S1, f1.slots sl, o1, fun S2 v2 H2 f2 o2 d2 => ⟨S2, (f1.trans o1 f2).slots sl, o2, fun S3 v3 H3 f3 o3 d3 => ?_⟩⟩
    have f13 := f1.trans o1 (f2.trans o2 f3)
    have hk3 : (ow1 ++ [OB.l []])[k]? = some (.g gs) := by rw [List.getElem?_append_left (List.getElem?_eq_some_iff.mp hk).1]; exact hk
    obtain ⟨a', kvs', e', k1, k2, k3⟩ := own_g o3 (f3.denR (f2.denR (.own g1))) hk3
    cases e'
    cases d2 with
    | d d2 =>
      have hn := (gr_val (i := i) k3).2 hl
      refine ⟨kvs', Sum.inl i, k2, d2.of_int, by rw [paired_len' k3]; exact Evl.sz_lt hz, fun v hv => ?_, fun _ => ?_⟩
      · rw [hn] at hv
        cases hv
      · cases d3 with
        | own d3 =>
          obtain ⟨u1, u2⟩ := own_putB (b' := .g (gs ++ [(i, ow1.length)])) (u := .dK (putK kvs' (Sum.inl i) (.ref _))) o3 k1 fun ex => .g upd_same (by
            rw [putK_new _ hn]
            exact Paired.snoc k3 ⟨rfl, _, rfl, d3⟩)
          have e1 : (ow1 ++ [OB.l []]).set k (.g (gs ++ [(i, ow1.length)])) = ow1.set k (.g (gs ++ [(i, ow1.length)])) ++ [.l []] := by
            rw [List.set_append_left _ _ (List.getElem?_eq_some_iff.mp hk).1]
          rw [e1] at u2
          exact q S3 _ _ (f13.trans o3 (Fwd.upd u1)) u2 (.own d3)⟩
/-- sorted(d) -/
theorem pd_sortedG (hc : X.calm = true) (hm : X.mg "sorted" = none) (ha : PD X st ow e (.own k) ow1) (hk : ow1[k]? = some (.g gs)) (hz : gs.length < 64) (hg : Gl X "sorted" := by rfl) (he : starEach [e] X.env = (false, eval e X.env) :: starEach [] X.env := by rfl) : PD X st ow (.Call (.Name "sorted" p) [e] [] pos) (.d (.lst ((isort (gs.map (·.1))).map D.int))) ow1 :=
  (pe_callB (call_sortedDI hc) hg hm (by decide +kernel) (pa_cons ha pa_nil he) (by decide) (by decide) he rfl).imp fun σ H Q ⟨S, sl, o, q⟩ => ⟨S, sl, o, fun S1 vs H1 f1 o1 d1 => by
    obtain ⟨a, kvs, rfl, g1, g2, g3⟩ := own_g o1 d1 hk
    refine ⟨a, kvs, gs.map (·.1), rfl, .inl g2, gr_keys g3, by rw [List.length_map]; exact hz, fun ys p hp hs hn => ?_⟩
    rw [isort_eq hp hs]
    exact q S1 _ _ (f1.trans o1 (.of (Evl.Ex.new hn))) (o1.ex (Evl.Ex.new hn)) (.d (new_lst o1 hn (Dens.of_ints _)))⟩
end
end Bl
set_option Elab.async false
set_option linter.all false
set_option maxRecDepth 100000
set_option maxHeartbeats 4000000
namespace Bl
open PySem PySem.Spec PyProof.Rows L2
/-! ### sorted of a tuple of ints -/
theorem cr_sortedTup {X : Cx} : CallR X (.builtin "sorted") (fun xs H Q => ∃ (a : Addr) (ns : List Int), xs = [.ref a] ∧ SqT X.K H a (ns.map V.int) ∧ ns.length < 64 ∧
    ∀ (ys : List Int) (p : Addr), ys.Perm ns → ys.Pairwise (· ≤ ·) → H p = none → Q (.ref p) (upd H p (.lst (ys.map V.int)))) := by
  intro pins s σ H xs us Q I r q
  obtain ⟨a, ns, ex, hd, h64, q⟩ := q
  subst ex
  obtain ⟨u, eu, rx⟩ := vals1 r
  subst eu
  cases rx
  obtain ⟨its, r', pl, hz⟩ := I.tuple hd
  have hlen := r'.length
  have hi := r'.ints
  obtain ⟨o, ho, hc, n, hdt⟩ := pl
  rw [List.length_map] at hlen hz
  refine Calls.call_function_entry PyProof.Rows.kind_sorted PyProof.Rows.plain_sorted PyProof.Rows.entry_sorted (PyProof.Rows.args_sorted1 _) ?_
  unfold Builtin.«sorted»
  refine wpAny_bind (m := checkCount "sorted" 1 1 _) (wpAny_pure ?_)
  refine wpAny_bind (wpAny_collect_seq a (.inr rfl) ho hc hdt (fun h' hk => ?_) (by rw [List.size_toArray]; omega))
  have I1 : Inv X pins σ H { s with heap := h' } := I.kept (t' := s.toks) hk
  refine wpAny_bind (wpAny_newList ?_ (by show its.toArray.toList.length ≤ sizeLine; rw [sizeLine_eq]; simp only [List.toList_toArray]; omega))
  have hoL : (h'.push (seqObj "list" its.toArray.toList.toArray 0)).get? h'.objs.size = some (seqObj "list" its.toArray.toList.toArray 0) := Heap.get?_push_size _ rfl
  show wpAny _ _ _ _ _ { s with heap := h'.push (seqObj "list" its.toArray.toList.toArray 0) }
  refine wpAny_bind (wpAny_holding (wpAny_call_entry PyProof.Rows.slot_list_sort ⟨_, hoL, rfl⟩ PyProof.Rows.entry_list_sort
    (PyProof.Rows.list_sort_tree (s := { s with heap := h'.push (seqObj "list" its.toArray.toList.toArray 0) }) hoL (ns := ns) (by simpa using hi) (by simp only [List.toList_toArray]; omega) fun out ys g1 g2 g3 => ⟨_, rfl, ?_⟩) (PyProof.Rows.args_list_sort _)))
  obtain ⟨e', he'⟩ := PyProof.Rows.sortedHeap_at (vs := its.toArray.toList) (out := out) hoL
  have hlen2 : (ys.map V.int).length ≤ sizeLine := by
    rw [List.length_map, g2.length_eq, sizeLine_eq]
    omega
  refine wpAny_pure ⟨_, rfl, .ref h'.objs.size, upd H h'.objs.size (.lst (ys.map V.int)), I1.laid (t' := s.toks) (fun b u e => ?_) (Nat.le_refl _)
    (show ObjOk X.prog X.w _ _ _ (.lst (ys.map V.int)) from ⟨hlen2, out.toList, e', vals_of_ints g1, by rw [Array.toArray_toList]; exact he'⟩), rfl, q ys _ g2 g3 (I1.hok.fresh (Nat.le_refl _))⟩
  have hb : b < h'.objs.size := Heap.lt_size e
  rw [PyProof.Rows.sortedHeap_old (Nat.ne_of_lt hb) (by rw [size_push']; exact Nat.lt_succ_of_lt hb)]
  exact Heap.get?_push_of_some _ e
section
variable {X : Cx} {e : Expr} {st : Sta} {ow ow1 : List OB} {p pos : Pos} {ns : List Int} {dd : D}
theorem pd_sortedT (hm : X.mg "sorted" = none) (ha : PADd X st ow [e] [dd] ow1) (ht : tupL dd = some (ns.map D.int)) (hl : ns.length < 64) (hg : Gl X "sorted" := by rfl) (he : starEach [e] X.env = [(false, eval e X.env)] := by rfl) : PD X st ow (.Call (.Name "sorted" p) [e] [] pos) (.d (.lst ((isort ns).map D.int))) ow1 :=
  pd_callB cr_sortedTup (fun S H ow vs Q o h q => by
    obtain ⟨v, rfl, g⟩ := dens1 h
    obtain ⟨a, xs, rfl, h1, h2⟩ := g.of_tup ht
    have e1 := h2.ints
    subst e1
    refine ⟨a, ns, rfl, h1, hl, fun ns' l hp hs hn => ?_⟩
    rw [isort_eq hp hs]
    exact q _ _ (Evl.Ex.new hn) (new_lst o hn (Dens.of_ints _))) hm (by decide +kernel) ha hg (by decide) (by decide) he rfl
theorem pd_sortedS {t : Bool} (hm : X.mg "sorted" = none) (ha : PADd X st ow [e] [sqD t (ns.map D.int)] ow1) (hl : ns.length < 64) (hg : Gl X "sorted" := by rfl) (he : starEach [e] X.env = [(false, eval e X.env)] := by rfl) : PD X st ow (.Call (.Name "sorted" p) [e] [] pos) (.d (.lst ((isort ns).map D.int))) ow1 := by
  cases t with
  | false => exact pd_sorted hm ha hl hg he
  | true => exact pd_sortedT hm ha rfl hl hg he
end
end Bl
set_option Elab.async false
set_option linter.all false
set_option maxRecDepth 100000
set_option maxHeartbeats 4000000
namespace Bl
open PySem PySem.Spec PyProof.Rows L2
section
variable {P : Program} {w : World} {K : PySem.W.Frag} {mg : Str → Option Value} {base : Heap} {f : Addr} {fd : FuncData} {k : Nat} {C : Addr}
/-! ### lots of lines, of lists and of tuples -/
def gLotFromS : GG := fun rs ow r ow' => ∃ (t : Bool) (m : Int) (qs : List Int), rs = [.d (sqD t (qs.map D.int)), .d (.int m)] ∧ LotIn m qs ∧ r = .d (tupI (isort qs)) ∧ ow' = ow
theorem seqL_cut (t : Bool) (qs : List Int) (i : Nat) : seqL (sqD t (cutD (qs.map D.int) none (some (i : Int)))) = some ((qs.take i).map D.int) := by
  rw [cut_take, ← List.map_take]
  cases t <;> rfl
theorem ok_lotFromS (F : Fun K "lot_from_lines" "lot_from_lines" sLotFrom f fd) (C1 : Fg P w K mg base "check_line" k ["line", "size"] gCheckLine) (mE : mg "enumerate" = none) (mT : mg "tuple" = none) (mS : mg "sorted" = none) : FnOk P w K mg base CX0 (k + 1) f fd ["value", "size"] (spF K gLotFromS) := by
  refine okF F scLotFrom (fun rs ow r ow' h => ?_) (fun cdv A outer s H E hr rs ow r ow' h => ?_)
  · obtain ⟨t, n, ns, rfl, _⟩ := h
    rfl
  · obtain ⟨t, m, qs, rfl, ⟨h1, h2, h3⟩, rfl, rfl⟩ := h
    refine pbd_cons (psd_forG [2, 3] (fun _ => [some (.d (sqD t (qs.map D.int))), some (.d (.int m)), none, none]) (fun _ => ow') none (fun i => [some (.d (sqD t (qs.map D.int))), some (.d (.int m)), some (.d (.int (i : Nat))), some (.d ((qs.map D.int).getD i .non))]) (fun i => .nx [some (.d (sqD t (qs.map D.int))), some (.d (.int m)), none, none] ow') PassesOwn.never rfl (pid_enumS mE (padd_cons (pd_var 0) padd_nil)) ⟨rfl, fun i r h => h⟩ rfl (fun i d hd _ => ?_) (fun i d hd _ => ?_) (fun i hi _ => .inl rfl) rfl) ?_
    · obtain ⟨x, hx, rfl⟩ := enumD_some hd
      rw [getD_of hx]
      exact pgd_tup rfl (pgsd_cons (pgd_name 2 scLotFrom.nd) (pgsd_cons (pgd_name 3 scLotFrom.nd) pgsd_nil))
    · obtain ⟨x, hx, rfl⟩ := enumD_some hd
      rw [getD_of hx]
      obtain ⟨q, hq, rfl⟩ := map_some_of hx
      obtain ⟨g1, g2⟩ := h2 q (List.mem_of_getElem? hq)
      exact pbd_weak (pbd_cons (psd_expr (pd_cg C1 hr (Nat.le_refl _) (padd_cons (pd_var 3) (padd_cons (pd_var 1) padd_nil)) ⟨q, m, rfl, g1, g2, rfl, rfl⟩)) (pbd_skip (ptd_in (ns := qs.take i) (pd_var 3) (pd_slS (t := t) (ds := qs.map D.int) (pd_var 0) pod_none (pod_some (pd_var 2))) (seqL_cut t qs i)) (decide_eq_false (nodup_take h1 hq)) pbd_nil)) rfl (by (intro i r h; rcases i with _ | _ | _ | _ | _ | _ | _ | _ | _ | i <;> first | exact h | cases h))
    · exact pbd_last (psd_ret (pd_tupleL mT (padd_cons (pd_sortedS (t := t) mS (padd_cons (pd_var 0) padd_nil) h3) padd_nil)))
def gLotManyS : GG := fun rs ow r ow' => ∃ (t : Bool) (m : Int) (qs : List Int) (x : Str), rs = [.d (sqD t (qs.map D.int)), .d (.int m), .d (.int (qs.length : Nat)), .d (.str x)] ∧ LotIn m qs ∧ 1 ≤ m ∧ m ≤ 16 ∧ r = .d (tupI (isort qs)) ∧ ow' = ow
theorem ok_lotManyS (F : Fun K "lot_of_many" "lot_of_many" sLotMany f fd) (C1 : Fg P w K mg base "check_size" k ["size"] gCheckSize) (C2 : Fg P w K mg base "lot_from_lines" k ["value", "size"] gLotFromS) (mI : mg "isinstance" = none) (mL : mg "list" = none) (mT : mg "tuple" = none) (mN : mg "len" = none) : FnOk P w K mg base CX0 (k + 1) f fd ["value", "size", "many", "word"] (spF K gLotManyS) := by
  refine okF F scLotMany (fun rs ow r ow' h => ?_) (fun cdv A outer s H E hr rs ow r ow' h => ?_)
  · obtain ⟨t, n, ns, x, rfl, _⟩ := h
    rfl
  · obtain ⟨t, m, qs, x, rfl, hl, h1, h2, rfl, rfl⟩ := h
    refine pbd_cons (psd_expr (pd_cg C1 hr (Nat.le_refl _) (padd_cons (pd_var 1) padd_nil) ⟨m, rfl, h1, h2, rfl, rfl⟩)) ?_
    refine pbd_skip (ptd_bool (pwd_or (ptd_not (ptd_val (pd_isT2 (n := "list") (m := "tuple") (t := tyS t) mI (padd_cons (pd_var 0) (padd_cons (pd_tup (padd_cons (pd_ty mL) (padd_cons (pd_ty mT) padd_nil))) padd_nil)) (!t) t (tyB_sq t _) (by cases t <;> decide +kernel) (by cases t <;> decide +kernel)))) (fun _ => pwd_or1 (ptd_ne (pd_lenS mN (padd_cons (pd_var 0) padd_nil)) (pd_var 2))))) (by cases t <;> simp) ?_
    exact pbd_last (psd_ret (pd_cg C2 hr (Nat.le_refl _) (padd_cons (pd_var 0) (padd_cons (pd_var 1) padd_nil)) ⟨t, m, qs, rfl, hl, rfl, rfl⟩))
abbrev sThreeOf : Stmt := topS 22
theorem scThreeOf : FnScope ["value", "size"] ["value", "size"] (defScope sThreeOf) := ⟨rfl, rfl, rfl, by decide +kernel, rfl, by decide +kernel, by decide +kernel⟩
def gThreeOf : GG := fun rs ow r ow' => ∃ (t : Bool) (m : Int) (qs : List Int), rs = [.d (sqD t (qs.map D.int)), .d (.int m)] ∧ LotIn m qs ∧ qs.length = 3 ∧ 1 ≤ m ∧ m ≤ 16 ∧ r = .d (tupI (isort qs)) ∧ ow' = ow
theorem ok_threeOf (F : Fun K "three_of" "three_of" sThreeOf f fd) (C1 : Fg P w K mg base "lot_of_many" k ["value", "size", "many", "word"] gLotManyS) : FnOk P w K mg base CX0 (k + 1) f fd ["value", "size"] (spF K gThreeOf) := by
  refine okF F scThreeOf (fun rs ow r ow' h => ?_) (fun cdv A outer s H E hr rs ow r ow' h => ?_)
  · obtain ⟨t, n, ns, rfl, _⟩ := h
    rfl
  · obtain ⟨t, m, qs, rfl, hl, h3, h1, h2, rfl, rfl⟩ := h
    exact pbd_last (psd_ret (pd_cg C1 hr (Nat.le_refl _) (padd_cons (pd_var 0) (padd_cons (pd_var 1) (padd_cons pd_int (padd_cons pd_str padd_nil)))) ⟨t, m, qs, _, by rw [h3]; rfl, hl, h1, h2, rfl, rfl⟩))
abbrev sLotOf : Stmt := topS 21
theorem scLotOf : FnScope ["value", "size"] ["value", "size"] (defScope sLotOf) := ⟨rfl, rfl, rfl, by decide +kernel, rfl, by decide +kernel, by decide +kernel⟩
def gLotOf : GG := fun rs ow r ow' => ∃ (t : Bool) (m : Int) (qs : List Int), rs = [.d (sqD t (qs.map D.int)), .d (.int m)] ∧ LotIn m qs ∧ 1 ≤ m ∧ m ≤ 16 ∧ r = .d (tupI (isort qs)) ∧ ow' = ow
theorem ok_lotOf (F : Fun K "lot_of" "lot_of" sLotOf f fd) (C1 : Fg P w K mg base "check_size" k ["size"] gCheckSize) (C2 : Fg P w K mg base "lot_from_lines" k ["value", "size"] gLotFromS) (mI : mg "isinstance" = none) (mL : mg "list" = none) (mT : mg "tuple" = none) : FnOk P w K mg base CX0 (k + 1) f fd ["value", "size"] (spF K gLotOf) := by
  refine okF F scLotOf (fun rs ow r ow' h => ?_) (fun cdv A outer s H E hr rs ow r ow' h => ?_)
  · obtain ⟨t, n, ns, rfl, _⟩ := h
    rfl
  · obtain ⟨t, m, qs, rfl, hl, h1, h2, rfl, rfl⟩ := h
    refine pbd_cons (psd_expr (pd_cg C1 hr (Nat.le_refl _) (padd_cons (pd_var 1) padd_nil) ⟨m, rfl, h1, h2, rfl, rfl⟩)) ?_
    refine pbd_skip (ptd_not (ptd_val (pd_isT2 (n := "list") (m := "tuple") (t := tyS t) mI (padd_cons (pd_var 0) (padd_cons (pd_tup (padd_cons (pd_ty mL) (padd_cons (pd_ty mT) padd_nil))) padd_nil)) (!t) t (tyB_sq t _) (by cases t <;> decide +kernel) (by cases t <;> decide +kernel)))) (by cases t <;> rfl) ?_
    exact pbd_last (psd_ret (pd_cg C2 hr (Nat.le_refl _) (padd_cons (pd_var 0) (padd_cons (pd_var 1) padd_nil)) ⟨t, m, qs, rfl, hl, rfl, rfl⟩))
/-! ### ahead, ringed -/
def gAhead (C : Addr) : GG := fun rs ow r ow' => ∃ (n : Int) (ns : List Int) (l a b : Int), rs = [.d (chartD C n ns), .d (.int l), .d (.int a), .d (.int b)] ∧ LotIn n [l, a, b] ∧ 1 ≤ n ∧ n ≤ 16 ∧ MetOk n ns l a b ∧ r = .d (.int (metZ n ns l a b)) ∧ ow' = ow
def ringedD (n : Int) (ns : List Int) : D := match (rngZ n).find? (fun l => (ringF n ns l).isSome) with
  | some l => .tup [.int l, optD (ringF n ns l)]
  | none => .non
def gRinged (C : Addr) : GG := fun rs ow r ow' => ∃ (n : Int) (ns : List Int), rs = [.d (chartD C n ns)] ∧ n ≤ 13 ∧ (∀ l ∈ rngZ n, ∀ q ∈ sub3 (othersZ n l), ThreeOk n ns l q) ∧ r = .d (ringedD n ns) ∧ ow' = ow
/-! ### simple -/
def gSimple (C : Addr) : GG := fun rs ow r ow' => ∃ (n : Int) (ns : List Int), rs = [.d (chartD C n ns)] ∧ r = .d (.bl (!decide ((0 : Int) ∈ ns))) ∧ ow' = ow
end
end Bl
set_option Elab.async false
set_option linter.all false
set_option maxRecDepth 100000
set_option maxHeartbeats 4000000
namespace Bl
open PySem PySem.Spec PyProof.Rows L2
/-! ### levels: lists by their ranks -/
abbrev Grp := List (Int × List Int)
def insG : Grp → Int → Int → Grp
  | [], r, y => [(r, [y])]
  | (k, ys) :: l, r, y => if k = r then (k, ys ++ [y]) :: l else (k, ys) :: insG l r y
def getS (st : Grp) (r : Int) : List Int := ((st.find? fun p => decide (p.1 = r)).map (·.2)).getD []
def keysG (st : Grp) : List Int := st.map (·.1)
theorem ins_cases (r y : Int) : ∀ st : Grp, (∃ l1 ys l2, st = l1 ++ (r, ys) :: l2 ∧ r ∉ keysG l1 ∧ insG st r y = l1 ++ (r, ys ++ [y]) :: l2) ∨ (r ∉ keysG st ∧ insG st r y = st ++ [(r, [y])])
  | [] => .inr ⟨by simp [keysG], rfl⟩
  | (k, ys) :: l => by
    by_cases h : k = r
    · left
      refine ⟨[], ys, l, by rw [h]; rfl, by simp [keysG], ?_⟩
      unfold insG
      rw [if_pos h, h]
      rfl
    · have e : insG ((k, ys) :: l) r y = (k, ys) :: insG l r y := by
        conv => lhs; unfold insG
        rw [if_neg h]
      rcases ins_cases r y l with ⟨l1, zs, l2, h1, h2, h3⟩ | ⟨h1, h2⟩
      · left
        refine ⟨(k, ys) :: l1, zs, l2, by rw [h1]; rfl, ?_, by rw [e, h3]; rfl⟩
        intro hm
        rcases List.mem_cons.mp hm with z | z
        · exact h z.symm
        · exact h2 z
      · right
        refine ⟨fun hm => ?_, by rw [e, h2]; rfl⟩
        rcases List.mem_cons.mp hm with z | z
        · exact h z.symm
        · exact h1 z
theorem getS_cons (k : Int) (ys : List Int) (l : Grp) (r : Int) : getS ((k, ys) :: l) r = if k = r then ys else getS l r := by
  unfold getS
  rw [List.find?_cons]
  by_cases h : k = r
  · rw [if_pos h]; simp [h]
  · rw [if_neg h]; simp [h]
theorem getS_none {r : Int} : ∀ {l : Grp}, r ∉ keysG l → getS l r = []
  | [], _ => rfl
  | (k, ys) :: l, h => by
    rw [getS_cons, if_neg fun z => h (List.mem_cons.mpr (.inl z.symm))]
    exact getS_none fun z => h (List.mem_cons_of_mem _ z)
theorem getS_ins (r y r' : Int) : ∀ st : Grp, getS (insG st r y) r' = if r' = r then getS st r ++ [y] else getS st r'
  | [] => by
    show getS [(r, [y])] r' = _
    rw [getS_cons]
    by_cases h : r = r'
    · rw [if_pos h, if_pos h.symm]; rfl
    · rw [if_neg h, if_neg fun z => h z.symm]
  | (k, ys) :: l => by
    unfold insG
    by_cases h : k = r
    · rw [if_pos h, getS_cons, getS_cons, getS_cons, if_pos h]
      by_cases h2 : k = r'
      · rw [if_pos h2, if_pos (h2.symm.trans h)]
      · rw [if_neg h2, if_neg h2, if_neg fun z => h2 (h.trans z.symm)]
    · rw [if_neg h, getS_cons, getS_ins r y r' l, getS_cons, getS_cons, if_neg h]
      by_cases h2 : k = r'
      · rw [if_pos h2, if_pos h2, if_neg fun z => h (h2.trans z)]
      · rw [if_neg h2, if_neg h2]
theorem keys_ins (r y r' : Int) : ∀ st : Grp, r' ∈ keysG (insG st r y) ↔ r' ∈ keysG st ∨ r' = r
  | [] => by simp [insG, keysG]
  | (k, ys) :: l => by
    unfold insG
    by_cases h : k = r
    · rw [if_pos h]
      show r' ∈ k :: keysG l ↔ r' ∈ k :: keysG l ∨ r' = r
      constructor
      · exact .inl
      · rintro (z | z)
        · exact z
        · rw [z, ← h]; exact List.mem_cons_self
    · rw [if_neg h]
      show r' ∈ k :: keysG (insG l r y) ↔ r' ∈ k :: keysG l ∨ r' = r
      rw [List.mem_cons, List.mem_cons, keys_ins r y r' l]
      constructor
      · rintro (z | z | z)
        · exact .inl (.inl z)
        · exact .inl (.inr z)
        · exact .inr z
      · rintro ((z | z) | z)
        · exact .inl z
        · exact .inr (.inl z)
        · exact .inr (.inr z)
theorem nodup_ins (r y : Int) : ∀ st : Grp, (keysG st).Nodup → (keysG (insG st r y)).Nodup
  | [], _ => by simp [insG, keysG]
  | (k, ys) :: l, hn => by
    obtain ⟨h1, h2⟩ := List.nodup_cons.mp (show (k :: keysG l).Nodup from hn)
    unfold insG
    by_cases h : k = r
    · rw [if_pos h]; exact hn
    · rw [if_neg h]
      refine List.nodup_cons.mpr ⟨fun z => ?_, nodup_ins r y l h2⟩
      rcases (keys_ins r y k l).mp z with q | q
      · exact h1 q
      · exact h q
def grpF (rk : Int → Int) (os : List Int) : Grp := os.foldl (fun st y => insG st (rk y) y) []
structure GOk (rk : Int → Int) (l : List Int) (st : Grp) : Prop where
  nd : (keysG st).Nodup
  get : ∀ r, getS st r = l.filter fun y => decide (rk y = r)
  key : ∀ r, r ∈ keysG st ↔ ∃ y ∈ l, rk y = r
theorem grp_ok (rk : Int → Int) : ∀ (m l : List Int) (st : Grp), GOk rk l st → GOk rk (l ++ m) (m.foldl (fun st y => insG st (rk y) y) st)
  | [], l, st, h => by rw [List.append_nil]; exact h
  | y :: m, l, st, h => by
    have := grp_ok rk m (l ++ [y]) (insG st (rk y) y) ⟨nodup_ins _ _ _ h.nd, fun r => by
      rw [getS_ins, List.filter_append, h.get, h.get]
      by_cases hr : r = rk y
      · rw [if_pos hr, List.filter_cons_of_pos (by simpa using hr.symm), List.filter_nil, hr]
      · rw [if_neg hr, List.filter_cons_of_neg (by simpa using fun z => hr z.symm), List.filter_nil, List.append_nil], fun r => by
      rw [keys_ins, h.key]
      constructor
      · rintro (⟨z, hz, e⟩ | rfl)
        · exact ⟨z, List.mem_append_left _ hz, e⟩
        · exact ⟨y, by simp, rfl⟩
      · rintro ⟨z, hz, e⟩
        rcases List.mem_append.mp hz with q | q
        · exact .inl ⟨z, q, e⟩
        · rw [List.mem_singleton.mp q] at e
          exact .inr e.symm⟩
    rw [List.append_assoc] at this
    exact this
theorem grp_ok0 (rk : Int → Int) (os : List Int) : GOk rk os (grpF rk os) := by
  have := grp_ok rk os [] [] ⟨by simp [keysG], fun r => rfl, fun r => by simp [keysG]⟩
  exact this
theorem rngZ_pw (n : Int) : (rngZ n).Pairwise (· < ·) := by
  unfold rngZ
  refine List.Pairwise.map _ ?_ List.pairwise_lt_range
  intro a b h
  omega
theorem rngZ_nd (n : Int) : (rngZ n).Nodup := (rngZ_pw n).imp fun h => by omega
theorem mem_rngZ' {n x : Int} (h0 : 0 ≤ x) (h1 : x < n) : x ∈ rngZ n := by
  unfold rngZ
  exact List.mem_map.mpr ⟨x.toNat, List.mem_range.mpr (by omega), by omega⟩
theorem rk_rng (F : List Int → Int) (x : Int) {n : Int} (h0 : 0 ≤ x) (h1 : x < n) {y : Int} (hy : y ∈ othersZ n x) : 0 ≤ rkW F x (othersZ n x) y ∧ rkW F x (othersZ n x) y < n := by
  have h2 := others_len (n := n) (x := x)
  have h3 : ((othersZ n x).filter fun z => !decide (z = y) && decide (metW F x z y = 1)).length < (othersZ n x).length := by
    refine List.length_filter_lt_length_iff_exists.mpr ⟨y, hy, by simp⟩
  unfold rkW
  omega
theorem lev_eq (F : List Int → Int) (x : Int) {n : Int} (h0 : 0 ≤ x) (h1 : x < n) : (isort (keysG (grpF (rkW F x (othersZ n x)) (othersZ n x)))).map (lvR F x (othersZ n x)) = lvW n F x := by
  have hg := grp_ok0 (rkW F x (othersZ n x)) (othersZ n x)
  unfold lvW
  rw [List.filter_map]
  congr 1
  refine (isort_eq ?_ ?_).symm
  · refine (List.perm_ext_iff_of_nodup ((rngZ_nd n).filter _) hg.nd).mpr fun r => ?_
    rw [hg.key, List.mem_filter]
    constructor
    · rintro ⟨h2, h3⟩
      have : (lvR F x (othersZ n x) r) ≠ [] := by
        intro z
        simp [z] at h3
      obtain ⟨y, hy⟩ := List.exists_mem_of_ne_nil _ this
      obtain ⟨q1, q2⟩ := List.mem_filter.mp hy
      exact ⟨y, q1, of_decide_eq_true q2⟩
    · rintro ⟨y, hy, rfl⟩
      have := rk_rng F x h0 h1 hy
      refine ⟨mem_rngZ' this.1 this.2, ?_⟩
      have : y ∈ lvR F x (othersZ n x) (rkW F x (othersZ n x) y) := List.mem_filter.mpr ⟨hy, decide_eq_true rfl⟩
      show (!(lvR F x (othersZ n x) (rkW F x (othersZ n x) y)).isEmpty) = true
      cases hl : lvR F x (othersZ n x) (rkW F x (othersZ n x) y) with
      | nil => rw [hl] at this; cases this
      | cons a l => rfl
  · exact ((rngZ_pw n).filter _).imp fun h => by omega
/-- what a group is in the store: a dict of the places of its lists -/
def gsO : Nat → Grp → List (Int × Nat)
  | _, [] => []
  | b, (k, _) :: l => (k, b) :: gsO (b + 1) l
def owS (st : Grp) : List OB := st.map fun p => .l (p.2.map D.int)
theorem gsO_len : ∀ (b : Nat) (l : Grp), (gsO b l).length = l.length
  | _, [] => rfl
  | b, (k, ys) :: l => by
    show (gsO (b + 1) l).length + 1 = l.length + 1
    rw [gsO_len]
theorem gsO_keys : ∀ (b : Nat) (l : Grp), (gsO b l).map (·.1) = keysG l
  | _, [] => rfl
  | b, (k, ys) :: l => by
    show k :: (gsO (b + 1) l).map (·.1) = k :: keysG l
    rw [gsO_keys]
theorem gsO_app : ∀ (b : Nat) (l : Grp) (r : Int) (ys : List Int), gsO b (l ++ [(r, ys)]) = gsO b l ++ [(r, b + l.length)]
  | b, [], r, ys => rfl
  | b, (k, zs) :: l, r, ys => by
    show (k, b) :: gsO (b + 1) (l ++ [(r, ys)]) = (k, b) :: (gsO (b + 1) l ++ _)
    rw [gsO_app, List.length_cons, show b + 1 + l.length = b + (l.length + 1) by omega]
theorem gsO_same : ∀ (b : Nat) (l1 : Grp) (r : Int) (ys zs : List Int) (l2 : Grp), gsO b (l1 ++ (r, ys) :: l2) = gsO b (l1 ++ (r, zs) :: l2)
  | b, [], r, ys, zs, l2 => rfl
  | b, (k, ws) :: l1, r, ys, zs, l2 => by
    show (k, b) :: gsO (b + 1) (l1 ++ (r, ys) :: l2) = (k, b) :: gsO (b + 1) (l1 ++ (r, zs) :: l2)
    rw [gsO_same (b + 1) l1 r ys zs l2]
theorem lookG_cons (k : Int) (b : Nat) (gs : List (Int × Nat)) (r : Int) : lookG ((k, b) :: gs) r = if k = r then some b else lookG gs r := by
  unfold lookG
  rw [List.find?_cons]
  by_cases h : k = r
  · rw [if_pos h]; simp [h]
  · rw [if_neg h]; simp [h]
theorem lookG_none {r : Int} : ∀ (b : Nat) (l : Grp), r ∉ keysG l → lookG (gsO b l) r = none
  | _, [], _ => rfl
  | b, (k, ys) :: l, h => by
    show lookG ((k, b) :: gsO (b + 1) l) r = none
    rw [lookG_cons, if_neg fun z => h (List.mem_cons.mpr (.inl z.symm))]
    exact lookG_none _ l fun z => h (List.mem_cons_of_mem _ z)
theorem lookG_some {r : Int} {ys : List Int} {l2 : Grp} : ∀ (b : Nat) (l1 : Grp), r ∉ keysG l1 → lookG (gsO b (l1 ++ (r, ys) :: l2)) r = some (b + l1.length)
  | b, [], _ => by
    show lookG ((r, b) :: gsO (b + 1) l2) r = _
    rw [lookG_cons, if_pos rfl]
    rfl
  | b, (k, zs) :: l, h => by
    show lookG ((k, b) :: gsO (b + 1) (l ++ (r, ys) :: l2)) r = _
    rw [lookG_cons, if_neg fun z => h (List.mem_cons.mpr (.inl z.symm)), lookG_some (b + 1) l fun z => h (List.mem_cons_of_mem _ z), List.length_cons, show b + 1 + l.length = b + (l.length + 1) by omega]
theorem split_key {r : Int} : ∀ {l : Grp}, r ∈ keysG l → ∃ l1 l2, l = l1 ++ (r, getS l r) :: l2 ∧ r ∉ keysG l1
  | [], h => by cases h
  | (k, ys) :: l, h => by
    by_cases hk : k = r
    · refine ⟨[], l, ?_, by simp [keysG]⟩
      rw [getS_cons, if_pos hk, hk]
      rfl
    · have h' : r ∈ keysG l := (List.mem_cons.mp h).resolve_left fun z => hk z.symm
      obtain ⟨l1, l2, e, hn⟩ := split_key h'
      refine ⟨(k, ys) :: l1, l2, ?_, fun z => ?_⟩
      · rw [getS_cons, if_neg hk]
        show _ = (k, ys) :: (l1 ++ (r, getS l r) :: l2)
        rw [← e]
      · rcases List.mem_cons.mp z with q | q
        · exact hk q.symm
        · exact hn q
end Bl
set_option Elab.async false
set_option linter.all false
set_option maxRecDepth 100000
set_option maxHeartbeats 4000000
namespace Bl
open PySem PySem.Spec PyProof.Rows L2
section
variable {X : Cx} {e : Expr} {st : Sta} {ow ow1 : List OB} {dd : D} {ds : List D}
/-- the truth of a tuple -/
theorem ptd_truT (h : PD X st ow e (.d dd) ow1) (ht : tupL dd = some ds) (he : ∀ whole, isTrue e X.env whole = (do let v ← whole; standAt e.pos; holding [v] (truthy v)) := by intro _; rfl) : PTD X st ow e (!ds.isEmpty) ow1 :=
  (pt_truth h he).imp fun σ H Q ⟨S, sl, o, k⟩ => ⟨S, sl, o, fun S1 v H1 f o1 d => by
    cases d with
    | d d =>
      obtain ⟨a, xs, rfl, h1, h2⟩ := d.of_tup ht
      have hl := Dens.length h2
      refine ⟨!ds.isEmpty, .inr (.inl ⟨xs, h1, ?_⟩), k S1 H1 f o1⟩
      cases xs with
      | nil =>
        cases ds with
        | nil => rfl
        | cons _ _ => cases hl
      | cons _ _ =>
        cases ds with
        | nil => cases hl
        | cons _ _ => rfl⟩
end
theorem nodup_len : ∀ (l m : List Int), l.Nodup → (∀ x ∈ l, x ∈ m) → l.length ≤ m.length
  | [], m, _, _ => Nat.zero_le _
  | a :: l, m, hn, h => by
    obtain ⟨h1, h2⟩ := List.nodup_cons.mp hn
    have ha := h a List.mem_cons_self
    have := nodup_len l (m.erase a) h2 fun x hx => (List.mem_erase_of_ne (fun (z : x = a) => h1 (by rw [← z]; exact hx))).mpr (h x (List.mem_cons_of_mem _ hx))
    rw [List.length_erase_of_mem ha] at this
    have hp : 0 < m.length := List.length_pos_of_mem ha
    rw [List.length_cons]
    omega
theorem metZ_F {n : Int} {F : List Int → Int} {l a b : Int} (h : isort [l, a, b] ∈ sub3 (rngZ n)) : metZ n (cns n F) l a b = metW F l a b ∧ MetOk n (cns n F) l a b := by
  refine ⟨?_, lotOk_F h⟩
  unfold metZ metW
  rw [sgA_F h]
section
variable {P : Program} {w : World} {K : PySem.W.Frag} {mg : Str → Option Value} {base : Heap} {f fG : Addr} {fd fdG : FuncData} {k : Nat} {C : Addr} {psG : List Str}
/-! ### part -/
abbrev sPart : Stmt := inClass (topS 34) 10
abbrev nPart : List Str := ["self", "lot", "names", "three"]
theorem scPart : FnScope nPart ["self", "lot"] (defScope sPart) := ⟨rfl, rfl, rfl, by decide +kernel, rfl, by decide +kernel, by decide +kernel⟩
def gPart (C : Addr) : GG := fun rs ow r ow' => ∃ (t : Bool) (n : Int) (ns qs : List Int), rs = [.d (chartD C n ns), .d (sqD t (qs.map D.int))] ∧ LotIn n qs ∧ 1 ≤ n ∧ n ≤ 13 ∧ qs ≠ [] ∧ qs.length ≤ 7 ∧ (∀ q ∈ sub3 (isort qs), LotOk n ns q ∧ -1 ≤ sgA n ns q ∧ sgA n ns q ≤ 1) ∧ (sub3 (isort qs)).length = (sub3 (rngZ (qs.length : Int))).length ∧ NoIow ow ∧
  r = .d (chartD C (qs.length : Int) ((sub3 (isort qs)).map (sgA n ns))) ∧ ow' = ow
theorem isort_len (qs : List Int) : (isort qs).length = qs.length := (isort_perm qs).length_eq
theorem ok_part (F : Fun K "part" "Chart.part" sPart f fd) (T : ChTxt K C) (M : Mk K C fG) (GI : FnOk P w K mg base CX0 k fG fdG psG (spI K C gInit)) (mC : mg "Chart" = some (.ref C)) (bI : Binds K fdG psG []) (C1 : Fg P w K mg base "lot_of" (k + 1) ["value", "size"] gLotOf) (C2 : Fg P w K mg base "threes_in" (k + 1) ["names"] (gSub sub3)) (M1 : Mt P w K mg base C "lot_sign" (k + 1) ["self", "three"] (gLot C)) (mN : mg "len" = none) : FnOk P w K mg base CX0 (k + 2) f fd ["self", "lot"] (spF K (gPart C)) := by
  refine okF F scPart (fun rs ow r ow' h => ?_) (fun cdv A outer s H E hr rs ow r ow' h => ?_)
  · obtain ⟨t, n, ns, qs, rfl, _⟩ := h
    rfl
  · obtain ⟨t, n, ns, qs, rfl, hl, h1, h13, hne, hq13, hok, hlen, no, rfl, rfl⟩ := h
    have hql := isort_len qs
    have hpos : 0 < qs.length := List.length_pos_iff.mpr hne
    refine pbd_cons (psd_set 2 scPart.nd (pd_cg C1 hr (Nat.le_refl _) (padd_cons (pd_var 1) (padd_cons (pd_fld (pd_var 0) T.cl T.size (chF_size n ns)) padd_nil)) ⟨t, n, qs, rfl, hl, h1, by omega, rfl, rfl⟩)) ?_
    refine pbd_skip (ptd_not (ptd_truT (pd_var 2) rfl)) (by
      cases hi : (isort qs).map D.int with
      | nil =>
        have := congrArg List.length hi
        rw [List.length_map, hql] at this
        exact absurd this (by simp only [List.length_nil]; omega)
      | cons a l => rfl) ?_
    refine pbd_last (psd_ret (pd_make M GI hr mC bI (padd_cons (pd_lenT mN (padd_cons (pd_var 2) padd_nil)) (padd_cons (pd_lc (own := [("three", 3)]) (sub3 (isort qs)) tupI (fun q => [some (.d (chartD C n ns)), some (.d (sqD t (qs.map D.int))), some (.d (tupI (isort qs))), some (.d (tupI q))]) (fun _ => true) (fun q => .int (sgA n ns q))
      rfl scPart.nd (pid_eq (pid_list (pd_cg C2 hr (Nat.le_refl _) (padd_cons (pd_var 2) padd_nil) ⟨true, (isort qs).map D.int, rfl, by rw [List.length_map, hql]; omega, rfl, rfl⟩)) (by rw [sub3_map, List.map_map]; rfl)) (blkOk_by (N := nPart) (sc := defScope sPart) (by decide +kernel)) ?_ (fun q hq _ H C' cl fp => pgd_name 3 scPart.nd) (fun q hq l _ H C' cl fp => ptsd_nil) (fun q hq _ l _ H C' cl fp => pd_mt M1 (pd_var 0) T.cl hr (Nat.le_refl _) (padd_cons (pd_var 3) padd_nil) (chF_no n ns nm1 nm2 nm3 nm4) ⟨n, ns, q, rfl, (hok q hq).1, rfl, rfl⟩)) padd_nil))
      ⟨(qs.length : Int), .d (.lst ((((sub3 (isort qs)).map (sgA n ns))).map D.int)), (sub3 (isort qs)).map (sgA n ns), ?_, .inr ⟨false, rfl⟩, by omega, by omega, ?_, ?_, no, rfl, rfl⟩))
    · have := hlen
      have h35 := sub3_len7 (n := (qs.length : Int)) (by omega) (by omega)
      omega
    · rw [List.length_map, hql, List.filter_eq_self.mpr (fun _ _ => rfl), List.map_map]
      rfl
    · rw [List.length_map, hlen]
    · intro v hv
      obtain ⟨q, hq, rfl⟩ := List.mem_map.mp hv
      exact ⟨(hok q hq).2.1, (hok q hq).2.2⟩
/-! ### levels_on, meetings -/
abbrev nLevelsOn : List Str := ["chart", "line", "other", "others", "levels", "first", "before", "many"]
def gLevelsOn (C : Addr) : GG := fun rs ow r ow' => ∃ (n : Int) (F : List Int → Int) (x : Int), rs = [.d (chartD C n (cns n F)), .d (.int x)] ∧ 0 ≤ x ∧ x < n ∧ n ≤ 7 ∧ SgnF F ∧ r = .d (.tup (tup2 (lvW n F x))) ∧ ow' = ow
abbrev loSt (C : Addr) (n : Int) (F : List Int → Int) (x : Int) (os : List Int) (y : Option R) (kd : Nat) (a b c : Option R) : Sta := [some (.d (chartD C n (cns n F))), some (.d (.int x)), y, some (.d (.lst (os.map D.int))), some (.own kd), a, b, c]
def owG (ow : List OB) (st : Grp) : List OB := ow ++ (.g (gsO (ow.length + 1) st) :: owS st)
theorem metW_rng {F : List Int → Int} (h : SgnF F) (x y z : Int) : -1 ≤ metW F x y z ∧ metW F x y z ≤ 1 := by
  unfold metW
  have := h (isort [x, y, z])
  split <;> omega
set_option maxHeartbeats 16000000 in
end
end Bl
set_option Elab.async false
set_option linter.all false
set_option maxRecDepth 100000
set_option maxHeartbeats 4000000
namespace Bl
open PySem PySem.Spec PyProof.Rows L2
section
variable {X : Cx} {tg iter elt tg1 iter1 : Expr} {ifs1 : List Expr} {scope : Scope} {own : List (Str × Nat)} {st : Sta} {ow ow1 : List OB} {pos : Pos}
/-- y = [.. for .. for ..] -/
theorem psd_setLc2 {α β : Type} {yn : Str} {py spos : Pos} (i : Nat) (vs1 : List Nat) (as : List α) (enc : α → D) (stx : α → Sta) (bs : α → List β) (enc2 : α → β → D) (sty : α → β → Sta) (qq : α → β → Bool) (ff : α → β → D) (hc : X.calm = true) (hN : X.N.Nodup) (hi : PID X st ow tg iter (as.map enc) ow1) (ok : BlkOk X.N X.env.scope scope own) (hv : ∀ i ∈ vs1, i ∈ own.map (·.2))
    (hlen : ∀ l : List α, l <+: as → (all2 bs qq ff l).length + 40000 ≤ 80000) (hb : ∀ x, x ∈ as → (bs x).length ≤ 40000)
    (hg : ∀ x, x ∈ as → AtBlk X scope fun Y => PGD Y (own.map (·.2)) (wipeD st (own.map (·.2))) (enc x) tg (stx x))
    (hi1 : ∀ x, x ∈ as → ∀ l, AtBlk X scope fun Y => PID Y (stx x) (ow1 ++ [.l l]) tg1 iter1 ((bs x).map (enc2 x)) (ow1 ++ [.l l]))
    (hg1 : ∀ x y, x ∈ as → y ∈ bs x → AtBlk X scope fun Y => PGD Y vs1 (wipeD (stx x) vs1) (enc2 x y) tg1 (sty x y))
    (ht1 : ∀ x y, x ∈ as → y ∈ bs x → ∀ l, AtBlk X scope fun Y => PTsD Y (sty x y) (ow1 ++ [.l l]) ifs1 (qq x y))
    (he : ∀ x y, x ∈ as → y ∈ bs x → qq x y = true → ∀ l, AtBlk X scope fun Y => PD Y (sty x y) (ow1 ++ [.l l]) elt (.d (ff x y)) (ow1 ++ [.l l]))
    (hsw : swapsWith (.ListComp elt [⟨tg, iter, [], 0⟩, ⟨tg1, iter1, ifs1, 0⟩] scope pos) (some (.Name yn py)) spos.line X.env = pure true := by exact sw_true rfl rfl rfl (by decide +kernel)) (hy : X.N[i]? = some yn := by rfl) (hyl : X.env.scope.names.lookup yn = some .local := by rfl)
    (hs : ∀ x, foldedSetIterable iter X.env x = pure x := by intro _; rfl) (hs1 : ∀ env x, foldedSetIterable iter1 env x = pure x := by intro _ _; rfl) :
    PSD X st ow (.Assign [.Name yn py] (.ListComp elt [⟨tg, iter, [], 0⟩, ⟨tg1, iter1, ifs1, 0⟩] scope pos) spos) (.nx (st.set i (some (.d (.lst (all2 bs qq ff as))))) ow1) :=
  (ps_setLc2 (i := i) (g := lG as enc stx X.K (own.map (·.2)) st) (tt := tYes) (wi1 := l2I as stx bs enc2 X.K ow1) (g1 := l2G as stx bs enc2 sty X.K vs1) (tt1 := l2T as bs sty qq X.K ow1) (te := l2E as bs sty qq ff X.K ow1) hc hN hy hyl hsw hi ok hv (fun s H C cl fp => pg_ex fun x => hg x.1 x.2 s H C cl fp) (fun s H C cl fp => pts_nil)
    (fun s H C cl fp => pi_ex fun x => hi1 x.1.1 x.2 x.1.2 s H C cl fp) (fun s H C cl fp => pg_ex fun x => hg1 x.1.1 x.1.2 x.2.1 x.2.2 s H C cl fp) (fun s H C cl fp => pts_ex fun x => ht1 x.1.1 x.1.2.1 x.2.1 x.2.2 x.1.2.2 s H C cl fp)
    (fun s H C cl fp => pe_ex fun x => he x.1.1 x.1.2.1 x.2.1 x.2.2.1 x.2.2.2 x.1.2.2 s H C cl fp) hs hs1).imp fun E σ H ⟨S, sl, o, q⟩ => ⟨S, sl, o, fun S1 H1 J f1 o1 w1 => lc2_read (vs := own.map (·.2)) (Q := fun x H1 => gName i x σ H1 E.nx) as enc stx bs enc2 sty qq ff vs1 w1 (f1.slots sl) o1 hlen hb fun v H' g1 g2 g3 =>
      q S1 _ H' (f1.trans o1 g1) (((f1.trans o1 g1).slots sl).set i (.d g3)) g2⟩
end
end Bl
set_option Elab.async false
set_option linter.all false
set_option maxRecDepth 100000
set_option maxHeartbeats 8000000
namespace Bl
open PySem PySem.Spec PyProof.Rows L2
/-! ### the sign of names in any order -/
def fallL (qs : List Int) : List D := all2 (fun p : Int × Nat => qs.take p.2) (fun p y => decide (p.1 < y)) (fun p _ => D.int p.1) qs.zipIdx
def parZ (qs : List Int) : Int := if ((fallL qs).length : Int) % 2 = 0 then 1 else -1
theorem enumD_ints (qs : List Int) : enumD (qs.map D.int) = qs.zipIdx.map fun p => D.par [.int (p.2 : Nat), .int p.1] := by
  unfold enumD
  rw [List.zipIdx_map, List.map_map]
  rfl
theorem all_int (qs : List Int) : ((qs.map fun q => isI (.int q)).all id) = true := by
  rw [List.all_map]
  exact List.all_eq_true.mpr fun _ _ => rfl
section
variable {P : Program} {w : World} {K : PySem.W.Frag} {mg : Str → Option Value} {base : Heap} {f fG : Addr} {fd fdG : FuncData} {k : Nat} {C : Addr}
abbrev sOrdSign : Stmt := topS 20
abbrev nOrdSign : List Str := ["names", "name", "at", "other", "falling"]
theorem scOrdSign : FnScope nOrdSign ["names"] (defScope sOrdSign) := ⟨rfl, rfl, rfl, by decide +kernel, rfl, by decide +kernel, by decide +kernel⟩
def gOrdSign : GG := fun rs ow r ow' => ∃ (t : Bool) (qs : List Int), rs = [.d (sqD t (qs.map D.int))] ∧ qs.Nodup ∧ qs.length ≤ 20 ∧ r = .d (.int (parZ qs)) ∧ ow' = ow
abbrev osSt (t : Bool) (qs : List Int) (a b c d : Option R) : Sta := [some (.d (sqD t (qs.map D.int))), a, b, c, d]
theorem ok_ordSign (F : Fun K "order_sign" "order_sign" sOrdSign f fd) (C1 : Fg P w K mg base "is_int" k ["value"] gIsInt) (mI : mg "isinstance" = none) (mL : mg "list" = none) (mT : mg "tuple" = none) (mA : mg "all" = none) (mE : mg "enumerate" = none) (mN : mg "len" = none) : FnOk P w K mg base CX0 (k + 1) f fd ["names"] (spF K gOrdSign) := by
  refine okF F scOrdSign (fun rs ow r ow' h => ?_) (fun cdv A outer s H E hr rs ow r ow' h => ?_)
  · obtain ⟨t, qs, rfl, _⟩ := h
    rfl
  · obtain ⟨t, qs, rfl, hn, hl, rfl, rfl⟩ := h
    refine pbd_skip (bl := false) (ptd_eqB (ptd_bool (pwd_or (ptd_not (ptd_val (pd_isT2 (n := "list") (m := "tuple") (t := tyS t) mI (padd_cons (pd_var 0) (padd_cons (pd_tup (padd_cons (pd_ty mL) (padd_cons (pd_ty mT) padd_nil))) padd_nil)) (!t) t (tyB_sq t _) (by cases t <;> decide +kernel) (by cases t <;> decide +kernel)))) (fun _ => pwd_or1 (ptd_not (ptd_val (pd_all (bs := qs.map fun q => isI (.int q)) rfl mA (padd_cons (pd_eqD (pd_lc (own := [("name", 1)]) qs D.int (fun q => osSt t qs (some (.d (.int q))) none none none) (fun _ => true) (fun q => .bl (isI (.int q)))
      rfl scOrdSign.nd (pid_sq (t := t) (pd_var 0)) (blkOk_by (N := nOrdSign) (sc := defScope sOrdSign) (by decide +kernel)) (by omega) (fun q hq _ H C' cl fp => pgd_name 1 scOrdSign.nd) (fun q hq l _ H C' cl fp => ptsd_nil) (fun q hq _ l _ H C' cl fp => pd_cg C1 hr (Nat.le_refl _) (padd_cons (pd_var 1) padd_nil) ⟨.int q, "int", rfl, rfl, rfl, rfl⟩)) (by rw [List.filter_eq_self.mpr (fun _ _ => rfl), List.map_map]; rfl)) padd_nil))))))) (by rw [all_int]; cases t <;> rfl)) rfl ?_
    refine pbd_cons (psd_forG [1, 2] (fun _ => osSt t qs none none none none) (fun _ => ow') none (fun i => osSt t qs (some (.d ((qs.map D.int).getD i .non))) (some (.d (.int (i : Nat)))) none none) (fun i => .nx (osSt t qs none none none none) ow') PassesOwn.never rfl (pid_enumS mE (padd_cons (pd_var 0) padd_nil)) ⟨rfl, fun i r h => h⟩ rfl (fun i d hd _ => ?_) (fun i d hd _ => ?_) (fun i hi _ => .inl rfl) rfl) ?_
    · obtain ⟨x, hx, rfl⟩ := enumD_some hd
      rw [getD_of hx]
      exact pgd_tup rfl (pgsd_cons (pgd_name 2 scOrdSign.nd) (pgsd_cons (pgd_name 1 scOrdSign.nd) pgsd_nil))
    · obtain ⟨x, hx, rfl⟩ := enumD_some hd
      rw [getD_of hx]
      obtain ⟨q, hq, rfl⟩ := map_some_of hx
      exact pbd_weak (pbd_skip (ptd_in (ns := qs.take i) (pd_var 1) (pd_slS (t := t) (ds := qs.map D.int) (pd_var 0) pod_none (pod_some (pd_var 2))) (seqL_cut t qs i)) (decide_eq_false (nodup_take hn hq)) pbd_nil) rfl (by (intro i r h; rcases i with _ | _ | _ | _ | _ | i <;> first | exact h | cases h))
    have b1 : ∀ l : List (Int × Nat), l <+: qs.zipIdx → (all2 (fun p : Int × Nat => qs.take p.2) (fun p y => decide (p.1 < y)) (fun p _ => D.int p.1) l).length + 40000 ≤ 80000 := fun l hl' => by
      have h1 := all2_len (fun p : Int × Nat => qs.take p.2) (fun p y => decide (p.1 < y)) (fun p _ => D.int p.1) 20 l fun x _ => by rw [List.length_take]; omega
      have h2 : l.length ≤ 20 := Nat.le_trans hl'.length_le (by rw [List.length_zipIdx]; exact hl)
      have h3 : l.length * 20 ≤ 20 * 20 := Nat.mul_le_mul_right 20 h2
      omega
    refine pbd_cons (psd_setLc2 (own := [("at", 2), ("name", 1), ("other", 3)]) 4 [3] qs.zipIdx (fun p => D.par [.int (p.2 : Nat), .int p.1]) (fun p => osSt t qs (some (.d (.int p.1))) (some (.d (.int (p.2 : Nat)))) none none)
      (fun p : Int × Nat => qs.take p.2) (fun _ y => D.int y) (fun p y => osSt t qs (some (.d (.int p.1))) (some (.d (.int (p.2 : Nat)))) (some (.d (.int y))) none) (fun p y => decide (p.1 < y)) (fun p _ => D.int p.1)
      rfl scOrdSign.nd (pid_eq (pid_enumS mE (padd_cons (pd_var 0) padd_nil)) (enumD_ints qs)) (blkOk_by (N := nOrdSign) (sc := defScope sOrdSign) (by decide +kernel)) (by decide) b1 (fun x _ => by rw [List.length_take]; omega)
      (fun p hp s H C cl fp => pgd_tup rfl (pgsd_cons (pgd_name 2 scOrdSign.nd) (pgsd_cons (pgd_name 1 scOrdSign.nd) pgsd_nil)))
      (fun p hp l s H C cl fp => pid_eq (pid_sq (pd_slS (pd_var 0) pod_none (pod_some (pd_var 2)))) (by rw [cut_take, List.map_take]))
      (fun p y hp hy s H C cl fp => pgd_name 3 scOrdSign.nd)
      (fun p y hp hy l s H C cl fp => ptsd_one (ptd_gt (pd_var 3) (pd_var 1)))
      (fun p y hp hy _ l s H C cl fp => pd_var 1)) ?_
    refine pbd_last (psd_ret (pd_ifExp (r1 := .d (.int (parZ qs))) (ptd_eq (pd_mod (pd_lenL mN (padd_cons (pd_var 4) padd_nil)) pd_int (by decide)) pd_int) (fun hb => ?_) (fun hb => ?_)))
    · rw [iv_eq] at hb
      have e : parZ qs = 1 := if_pos (of_decide_eq_true hb)
      rw [e]
      exact pd_int
    · rw [iv_eq] at hb
      have e : parZ qs = -1 := if_neg (of_decide_eq_false hb)
      rw [e]
      exact pd_neg pd_int
abbrev sSign : Stmt := inClass (topS 34) 9
theorem scSign : FnScope ["self", "names", "three"] ["self", "names"] (defScope sSign) := ⟨rfl, rfl, rfl, by decide +kernel, rfl, by decide +kernel, by decide +kernel⟩
def gSign (C : Addr) : GG := fun rs ow r ow' => ∃ (t : Bool) (n : Int) (ns qs : List Int), rs = [.d (chartD C n ns), .d (sqD t (qs.map D.int))] ∧ LotIn n qs ∧ qs.length = 3 ∧ 1 ≤ n ∧ n ≤ 16 ∧ LotOk n ns (isort qs) ∧ -1 ≤ sgA n ns (isort qs) ∧ sgA n ns (isort qs) ≤ 1 ∧ r = .d (.int (sgA n ns (isort qs) * parZ qs)) ∧ ow' = ow
theorem ok_sign (F : Fun K "sign" "Chart.sign" sSign f fd) (T : ChTxt K C) (C1 : Fg P w K mg base "three_of" k ["value", "size"] gThreeOf) (M1 : Mt P w K mg base C "lot_sign" k ["self", "three"] (gLot C)) (C2 : Fg P w K mg base "order_sign" k ["names"] gOrdSign) : FnOk P w K mg base CX0 (k + 1) f fd ["self", "names"] (spF K (gSign C)) := by
  refine okF F scSign (fun rs ow r ow' h => ?_) (fun cdv A outer s H E hr rs ow r ow' h => ?_)
  · obtain ⟨t, n, ns, qs, rfl, _⟩ := h
    rfl
  · obtain ⟨t, n, ns, qs, rfl, hl, h3, h1, h16, hlo, s1, s2, rfl, rfl⟩ := h
    refine pbd_cons (psd_set 2 scSign.nd (pd_cg C1 hr (Nat.le_refl _) (padd_cons (pd_var 1) (padd_cons (pd_fld (pd_var 0) T.cl T.size (chF_size n ns)) padd_nil)) ⟨t, n, qs, rfl, hl, h3, h1, h16, rfl, rfl⟩)) ?_
    exact pbd_last (psd_ret (pd_mul (pd_mt M1 (pd_var 0) T.cl hr (Nat.le_refl _) (padd_cons (pd_var 2) padd_nil) (chF_no n ns nm1 nm2 nm3 nm4) ⟨n, ns, isort qs, rfl, hlo, rfl, rfl⟩) (pd_cg C2 hr (Nat.le_refl _) (padd_cons (pd_var 1) padd_nil) ⟨t, qs, rfl, hl.1, by omega, rfl, rfl⟩) (.inl ⟨by omega, by omega⟩)))
end
end Bl
set_option Elab.async false
set_option linter.all false
set_option maxRecDepth 100000
set_option maxHeartbeats 4000000
namespace Bl
open PySem PySem.Spec PyProof.Rows L2
/-! ### a comprehension whose test changes the mutable things -/
section
variable {α τ : Type} (as : List α) (enc : α → D) (stx : α → Sta) (pp : τ → α → Bool) (sf : τ → α → τ) (ff : α → D) (owF : τ → List OB) (s0 : τ)
def lcStep (p : τ × List α) (x : α) : τ × List α := (sf p.1 x, if pp p.1 x = true then p.2 ++ [x] else p.2)
def lcRun (l : List α) : τ × List α := l.foldl (lcStep pp sf) (s0, [])
theorem lcRun_len : ∀ (l : List α) (p : τ × List α), (l.foldl (lcStep pp sf) p).2.length ≤ p.2.length + l.length
  | [], p => Nat.le_refl _
  | x :: l, p => by
    have h := lcRun_len l (lcStep pp sf p x)
    have h2 : (lcStep pp sf p x).2.length ≤ p.2.length + 1 := by
      unfold lcStep
      split
      · rw [List.length_append]; exact Nat.le_refl _
      · exact Nat.le_succ _
    rw [List.foldl_cons, List.length_cons]
    omega
def lTF (K : PySem.W.Frag) : TT := fun σ H Q => ∃ x : { p : α × τ × List D // p.1 ∈ as }, tDT K (stx x.1.1) (owF x.1.2.1 ++ [.l x.1.2.2]) (pp x.1.2.1 x.1.1) (owF (sf x.1.2.1 x.1.1) ++ [.l x.1.2.2]) σ H Q
def lEF (K : PySem.W.Frag) : TE := fun σ H Q => ∃ x : { p : α × τ × List D // p.1 ∈ as }, tD K (stx x.1.1) (owF x.1.2.1 ++ [.l x.1.2.2]) (.d (ff x.1.1)) (owF x.1.2.1 ++ [.l x.1.2.2]) σ H Q
theorem lc_readF {K : PySem.W.Frag} {vs : List Nat} {Q : VK} {σ : L2.St} {st : Sta} {S1 : List Addr} {H1 : Hp} {J : It} (hlo : ∀ s, (owF s).length = (owF s0).length) (hkp : ∀ s, KeepG (owF s0) (owF s)) (w1 : WD K S1 H1 J (as.map enc)) (sl : Slots K S1 H1 σ st) (o1 : Owns K S1 H1 (owF s0)) (hlen : as.length ≤ 40000)
    (k : ∀ v H', Fwd S1 H1 S1 H' → Owns K S1 H' (owF (lcRun pp sf s0 as).1) → Den K S1 H' v (.lst ((lcRun pp sf s0 as).2.map ff)) → Q v H') :
    ∀ D, H1 D = none → ∃ W : Nat → Nat → Hp → Prop, (∃ m, W 0 m (upd H1 D (.lst []))) ∧ ∀ i m H, W i m H →
      (J.stop i H ∧ Q (.ref D) H) ∨ (J.go i H ∧ ∃ Nx : Hp → Prop, (∀ H', Nx H' → ∃ m', m' < m ∧ W (i + 1) m' H') ∧ ∀ x H', J.yld i H x H' → lG as enc stx K vs st x (wipe σ vs) H' fun σ2 H2 => wipe σ2 vs = wipe σ vs ∧ lTF as stx pp sf owF K σ2 H2 fun b H3 =>
        if b = true then lEF as stx ff owF K σ2 H3 fun y H4 => ∃ acc, H4 D = some (.lst acc) ∧ acc.length < sizeLine ∧ Nx (upd H4 D (.lst (acc ++ [y]))) else Nx H3) := by
  intro D hD
  have hn := own_new (xs := []) (ds := []) o1 hD .nil
  have hln : (as.map enc).length = as.length := List.length_map ..
  refine lc_it (Qd := Q (.ref D)) w1 (fun i H' => LcP K S1 H1 D (owF (lcRun pp sf s0 (as.take i)).1) ((lcRun pp sf s0 (as.take i)).2.map ff) H') ⟨hn.1, hn.2.1⟩ (fun i H' _ p => ⟨_, _, p.f, p.o⟩) (fun i x H' H2 hi p ⟨ex, y⟩ => ?_) (fun H' p => ?_)
  · obtain ⟨d, hd, dd⟩ := y _ _ p.f p.o
    obtain ⟨xa, hxa, rfl⟩ := map_some_of hd
    have hmem : xa ∈ as := List.mem_of_getElem? hxa
    have p2 : LcP K S1 H1 D (owF (lcRun pp sf s0 (as.take i)).1) ((lcRun pp sf s0 (as.take i)).2.map ff) H2 := ⟨p.f.trans p.o (.of ex), p.o.ex ex⟩
    have hts : lcRun pp sf s0 (as.take (i + 1)) = lcStep pp sf (lcRun pp sf s0 (as.take i)) xa := by
      unfold lcRun
      rw [take_succ_of hxa, List.foldl_append]
      rfl
    have hz : ((lcRun pp sf s0 (as.take i)).2.map ff).length < 100000 := by
      rw [List.length_map]
      have h1 := lcRun_len pp sf (as.take i) (s0, [])
      rw [List.length_take] at h1
      have h1 : (lcRun pp sf s0 (as.take i)).2.length ≤ 0 + min i as.length := h1
      omega
    show lG as enc stx K vs st x (wipe σ vs) H2 fun σ2 H2 => wipe σ2 vs = wipe σ vs ∧ lTF as stx pp sf owF K σ2 H2 fun b H3 =>
        if b = true then lEF as stx ff owF K σ2 H3 fun y H4 => ∃ acc, H4 D = some (.lst acc) ∧ acc.length < sizeLine ∧ LcP K S1 H1 D (owF (lcRun pp sf s0 (as.take (i + 1))).1) ((lcRun pp sf s0 (as.take (i + 1))).2.map ff) (upd H4 D (.lst (acc ++ [y]))) else LcP K S1 H1 D (owF (lcRun pp sf s0 (as.take (i + 1))).1) ((lcRun pp sf s0 (as.take (i + 1))).2.map ff) H3
    rw [hts]
    generalize lcRun pp sf s0 (as.take i) = p0 at p2 hz
    obtain ⟨s, acc0⟩ := p0
    refine ⟨⟨xa, hmem⟩, S1 ++ [D], (p2.f.slots sl).wipe vs, dd, fun σ2 sl2 hw => ⟨hw.trans (wipe_wipe σ vs), ⟨(xa, s, _), hmem⟩, S1 ++ [D], sl2, p2.o, fun S3 H3 f3 o3 => ?_⟩⟩
    have e3 : S3 = S1 ++ [D] := fwd_same f3 p2.o o3 (by rw [List.length_append, List.length_append, hlo, hlo (sf s xa)])
    subst e3
    have p3 : LcP K S1 H1 D (owF (sf s xa)) (acc0.map ff) H3 := ⟨p2.f.trans p2.o f3, o3⟩
    show (if pp s xa = true then _ else _)
    unfold lcStep
    cases hb : pp s xa with
    | true =>
      refine iteT ⟨⟨(xa, sf s xa, _), hmem⟩, S1 ++ [D], f3.slots sl2, o3, fun S4 v H4 f4 o4 d4 => ?_⟩
      obtain ⟨e4, p4⟩ := p3.on f4 o4
      subst e4
      cases d4 with
      | d d4 =>
        obtain ⟨acc, h1, h2, h3⟩ := p4.app d4 hz
        refine ⟨acc, h1, h2, ?_⟩
        show LcP K S1 H1 D (owF (sf s xa)) ((if true = true then acc0 ++ [xa] else acc0).map ff) _
        rw [if_pos rfl, List.map_append]
        exact h3
    | false =>
      refine iteF ?_
      show LcP K S1 H1 D (owF (sf s xa)) ((if false = true then acc0 ++ [xa] else acc0).map ff) _
      rw [if_neg (by decide)]
      exact p3
  · have p' : LcP K S1 H1 D (owF (lcRun pp sf s0 (as.take (as.map enc).length)).1) ((lcRun pp sf s0 (as.take (as.map enc).length)).2.map ff) H' := p
    rw [hln, take_all] at p'
    have hr : DenR K (S1 ++ [D]) H' (.ref D) (.own (owF (lcRun pp sf s0 as).1).length) := .own (owns_last p'.o).choose_spec.1
    obtain ⟨g1, g2, g3⟩ := owns_drop p'.f o1 p'.o (hlo _).symm (hkp _) hr
    exact k _ _ g1 g2 g3
end
section
variable {X : Cx} {tg iter elt : Expr} {ifs : List Expr} {scope : Scope} {own : List (Str × Nat)} {st : Sta} {ow : List OB} {pos : Pos}
theorem pd_lcF {α τ : Type} (as : List α) (enc : α → D) (stx : α → Sta) (pp : τ → α → Bool) (sf : τ → α → τ) (ff : α → D) (owF : τ → List OB) (s0 : τ) (hlo : ∀ s, (owF s).length = (owF s0).length) (hkp : ∀ s, KeepG (owF s0) (owF s)) (hc : X.calm = true) (hN : X.N.Nodup) (hi : PID X st ow tg iter (as.map enc) (owF s0)) (ok : BlkOk X.N X.env.scope scope own) (hlen : as.length ≤ 40000)
    (hg : ∀ x, x ∈ as → AtBlk X scope fun Y => PGD Y (own.map (·.2)) (wipeD st (own.map (·.2))) (enc x) tg (stx x)) (ht : ∀ x s, x ∈ as → ∀ l, AtBlk X scope fun Y => PTs Y ifs (tDT Y.K (stx x) (owF s ++ [.l l]) (pp s x) (owF (sf s x) ++ [.l l])))
    (he : ∀ x s, x ∈ as → ∀ l, AtBlk X scope fun Y => PD Y (stx x) (owF s ++ [.l l]) elt (.d (ff x)) (owF s ++ [.l l])) (hs : ∀ x, foldedSetIterable iter X.env x = pure x := by intro _; rfl) :
    PD X st ow (.ListComp elt [⟨tg, iter, ifs, 0⟩] scope pos) (.d (.lst ((lcRun pp sf s0 as).2.map ff))) (owF (lcRun pp sf s0 as).1) :=
  (pe_lc (g := lG as enc stx X.K (own.map (·.2)) st) (tt := lTF as stx pp sf owF X.K) (te := lEF as stx ff owF X.K) hc hN hi ok (fun s H C cl fp => pg_ex fun x => hg x.1 x.2 s H C cl fp) (fun s H C cl fp => pts_ex fun x => ht x.1.1 x.1.2.1 x.2 x.1.2.2 s H C cl fp)
    (fun s H C cl fp => pe_ex fun x => he x.1.1 x.1.2.1 x.2 x.1.2.2 s H C cl fp) hs).imp fun σ H Q ⟨S, sl, o, q⟩ => ⟨S, sl, o, fun S1 H1 J f1 o1 w1 => lc_readF as enc stx pp sf ff owF s0 hlo hkp w1 (f1.slots sl) o1 hlen fun v H' g1 g2 g3 => q S1 v H' (f1.trans o1 g1) g2 (.d g3)⟩
end
end Bl
set_option Elab.async false
set_option linter.all false
set_option maxRecDepth 100000
set_option maxHeartbeats 4000000
namespace Bl
open PySem PySem.Spec PyProof.Rows L2
theorem pid_ow {X : Cx} {st : Sta} {ow owA owB : List OB} {tg e : Expr} {xs : List D} (h : PID X st ow tg e xs owA) (he : owA = owB) : PID X st ow tg e xs owB := he ▸ h
/-! ### a lot by a draw -/
def lotZ (n : Int) (ps : List Int) : List Int × List Int := lcRun (fun ps (_ : Int) => decide (nextV ps 2 = 1)) (fun ps _ => ps.dropLast) ps (rngZ n)
section
variable {P : Program} {w : World} {K : PySem.W.Frag} {mg : Str → Option Value} {base : Heap} {f fG : Addr} {fd fdG : FuncData} {k : Nat} {C : Addr}
abbrev sLotL : Stmt := topS 44
abbrev nLotL : List Str := ["_law_pool_here", "_law_size_here", "_law_line"]
theorem scLotL : FnScope nLotL ["_law_pool_here", "_law_size_here"] (defScope sLotL) := ⟨rfl, rfl, rfl, by decide +kernel, rfl, by decide +kernel, by decide +kernel⟩
def gLotL : GG := fun rs ow r ow' => ∃ (kp : Nat) (n : Int) (ps : List Int), rs = [.own kp, .d (.int n)] ∧ ow[kp]? = some (.l (ps.map D.int)) ∧ 0 ≤ n ∧ n ≤ 100 ∧ r = .d (.lst ((lotZ n ps).2.map D.int)) ∧ ow' = ow.set kp (.l ((lotZ n ps).1.map D.int))
theorem ok_lotL (F : Fun K "_law_lot" "_law_lot" sLotL f fd) (C1 : Fg P w K mg base "_law_next" k ["_law_pool_here", "_law_many"] gNext) (mR : mg "range" = none) : FnOk P w K mg base CX0 (k + 1) f fd ["_law_pool_here", "_law_size_here"] (spF K gLotL) := by
  refine okF F scLotL (fun rs ow r ow' h => ?_) (fun cdv A outer s H E hr rs ow r ow' h => ?_)
  · obtain ⟨kp, n, ps, rfl, _⟩ := h
    rfl
  · obtain ⟨kp, n, ps, rfl, hk, h0, h1, rfl, rfl⟩ := h
    have hkl : kp < ow.length := (List.getElem?_eq_some_iff.mp hk).1
    refine pbd_last (psd_ret (pd_lcF (own := [("_law_line", 2)]) (rngZ n) D.int (fun x => [some (.own kp), some (.d (.int n)), some (.d (.int x))]) (fun ps (_ : Int) => decide (nextV ps 2 = 1)) (fun ps _ => ps.dropLast) D.int (fun ps => ow.set kp (.l (ps.map D.int))) ps (fun s => by rw [List.length_set, List.length_set]) (fun s => by rw [set_same hk]; exact keepg_set) rfl scLotL.nd
      (pid_ow (pid_eq (pid_range1 mR (padd_cons (pd_var 1) padd_nil) (by omega)) (rngD_Z n)) (set_same hk).symm) (blkOk_by (N := nLotL) (sc := defScope sLotL) (by decide +kernel)) (by rw [rngZ_len]; omega) (fun x hx _ H C' cl fp => pgd_name 2 scLotL.nd) (fun x s hx l _ H C' cl fp => ?_) (fun x s hx l _ H C' cl fp => pd_var 2)))
    have hg : (ow.set kp (OB.l (s.map D.int)) ++ [OB.l l])[kp]? = some (.l (s.map D.int)) := by
      rw [List.getElem?_append_left (by rw [List.length_set]; exact hkl), List.getElem?_set_self hkl]
    exact ⟨fun pins s σ H Q I z => (pts_one (ptd_eqB (ptd_eq (pd_ow (pd_cg C1 hr (Nat.le_refl _) (pad_cons (pd_var 0) (padd_cons pd_int padd_nil)) ⟨kp, 2, _, rfl, hg, by decide, rfl, rfl⟩) (by rw [List.set_append_left _ _ (by rw [List.length_set]; exact hkl), List.set_set])) pd_int) (by rw [iv_eq]))).run pins s σ H Q I z⟩
end
end Bl
set_option Elab.async false
set_option linter.all false
set_option maxRecDepth 100000
set_option maxHeartbeats 4000000
namespace Bl
open PySem PySem.Spec PyProof.Rows L2
theorem dens_erase {K : PySem.W.Frag} {S : List Addr} {H : Hp} : ∀ {xs : List V} {ds : List D} (i : Nat), Dens K S H xs ds → Dens K S H (xs.eraseIdx i) (ds.eraseIdx i)
  | [], [], i, _ => by simpa using (.nil : Dens K S H [] [])
  | [], _ :: _, _, h => nomatch h
  | _ :: _, [], _, h => nomatch h
  | x :: xs, d :: ds, 0, h => h.uncons.2
  | x :: xs, d :: ds, i + 1, h => .cons h.uncons.1 (dens_erase i h.uncons.2)
theorem seq_ix {j n : Nat} (h : j < n) : seqIndex? (j : Int) n = some j := by
  unfold seqIndex?
  simp
  omega
section
variable {X : Cx} {o e : Expr} {st : Sta} {ow ow1 ow2 : List OB} {apos cpos : Pos} {l : List D} {d : D} {k j : Nat}
/-- xs.pop(j) -/
theorem pd_popAt (ho : PD X st ow o (.own k) ow1) (ha : PD X st ow1 e (.d (.int (j : Int))) ow2) (hk1 : ∃ l1, ow1[k]? = some (.l l1)) (hk : ow2[k]? = some (.l l)) (hj : l[j]? = some d) (hz : l.length ≤ 100000) (h1 : attributeBase o "pop" X.env (eval o X.env) = eval o X.env := by rfl)
    (h2 : ((backTo cpos (starEach [e] X.env)).all (fun x => !x.1) && (backToKw cpos (keywordEach [] X.env)).all (fun x => x.1.isSome) && decide ([e].length + ([] : List Keyword).length + (if ([] : List Keyword).isEmpty then 0 else 1) < 30)) = true := by rfl)
    (h3 : (apos.endLine == cpos.line) = true := by rfl) (h4 : starEach [e] X.env = (false, eval e X.env) :: starEach [] X.env := by rfl) (h5 : (backTo cpos (starEach [] X.env)).any (·.1) = false := by rfl) : PD X st ow (.Call (.Attribute o "pop" apos) [e] [] cpos) (.d d) (ow2.set k (.l (l.eraseIdx j))) :=
  (pe_bm PySem.F.plainAttrs_list PySem.F.slot_list_pop PySem.F.type_list_pop mt_popAt ho (pa_cons ha pa_nil h4) h1 h2 h3 h4 h5).imp fun σ H Q ⟨S, sl, o, q⟩ => ⟨S, sl, o, fun S1 v H1 f1 o1 d1 => by
    obtain ⟨l1, hl1⟩ := hk1
    obtain ⟨a, xs, rfl, g1, g2, g3⟩ := own_sq o1 d1 hl1
    refine ⟨own_tyL g2, S1, f1.slots sl, o1, fun S2 w H2 f2 o2 d2 => ?_⟩
    obtain ⟨a', xs', e', g1', g2', g3'⟩ := own_sq o2 (f2.denR d1) hk
    cases e'
    cases d2 with
    | d d2 =>
      have hlen := Dens.length g3'
      have hjl : j < l.length := (List.getElem?_eq_some_iff.mp hj).1
      obtain ⟨y, hy, hyd⟩ := Dens.get g3' hj
      obtain ⟨u1, u2⟩ := own_upd (l' := l.eraseIdx j) o2 g1' (dens_erase j g3')
      exact ⟨a, xs', (j : Int), j, y, rfl, by rw [d2.of_int], g2', by omega, by omega, by rw [hlen]; exact seq_ix hjl, hy, q S2 _ _ (f1.trans o1 (f2.trans o2 u1)) u2 (.d (u1.den hyd))⟩⟩
end
/-! ### parts of a table -/
structure LotA (n : Int) (lot : List Int) : Prop where
  pw : lot.Pairwise (· < ·)
  rg : ∀ x ∈ lot, 0 ≤ x ∧ x < n
  ln : lot.length ≤ 7
def FP (F : List Int → Int) (lot : List Int) (q : List Int) : Int := F (q.map (gI lot))
theorem gI_mem {lot : List Int} {i : Int} (h0 : 0 ≤ i) (h : i < (lot.length : Int)) : gI lot i ∈ lot := by
  rw [gI_get h0 (by omega)]
  exact List.getElem_mem _
theorem gI_lt {lot : List Int} (hp : lot.Pairwise (· < ·)) {i j : Int} (h0 : 0 ≤ i) (hij : i < j) (h : j < (lot.length : Int)) : gI lot i < gI lot j := by
  rw [gI_get h0 (by omega), gI_get (by omega) (by omega)]
  exact List.pairwise_iff_getElem.mp hp _ _ _ _ (by omega)
theorem three_lot {n : Int} {lot : List Int} (h0 : 0 ≤ n) (h7 : n ≤ 7) (hl : LotA n lot) {i j k : Int} (hi : 0 ≤ i) (hij : i < j) (hjk : j < k) (hk : k < (lot.length : Int)) : [gI lot i, gI lot j, gI lot k] ∈ sub3 (rngZ n) :=
  mem_sub3 h0 h7 (hl.rg _ (gI_mem hi (by omega))).1 (gI_lt hl.pw hi hij (by omega)) (gI_lt hl.pw (by omega) hjk hk) (hl.rg _ (gI_mem (by omega) hk)).2
section
variable {P : Program} {w : World} {K : PySem.W.Frag} {mg : Str → Option Value} {base : Heap} {f fG : Addr} {fd fdG : FuncData} {k : Nat} {C : Addr}
abbrev sPartL : Stmt := topS 49
abbrev nPartL : List Str := ["_law_table_here", "_law_lot_here", "_law_small", "_law_i", "_law_j", "_law_k"]
theorem scPartL : FnScope nPartL ["_law_table_here", "_law_lot_here"] (defScope sPartL) := ⟨rfl, rfl, rfl, by decide +kernel, rfl, by decide +kernel, by decide +kernel⟩
def gPartL : GG := fun rs ow r ow' => ∃ (n : Int) (F : List Int → Int) (lot : List Int), rs = [.d (.dT (tabI (tabF n F))), .d (.lst (lot.map D.int))] ∧ 0 ≤ n ∧ n ≤ 7 ∧ LotA n lot ∧ r = .own ow.length ∧ ow' = ow ++ [.t (tabI (tabF (lot.length : Int) (FP F lot)))]
abbrev plSt (n : Int) (F : List Int → Int) (lot : List Int) (kk : Nat) (i j k : Option R) : Sta := [some (.d (.dT (tabI (tabF n F)))), some (.d (.lst (lot.map D.int))), some (.own kk), i, j, k]
theorem ok_partL (F0 : Fun K "_law_part" "_law_part" sPartL f fd) (mR : mg "range" = none) (mN : mg "len" = none) : FnOk P w K mg base CX0 (k + 1) f fd ["_law_table_here", "_law_lot_here"] (spF K gPartL) := by
  refine okF F0 scPartL (fun rs ow r ow' h => ?_) (fun cdv A outer s H E hr rs ow r ow' h => ?_)
  · obtain ⟨n, F, lot, rfl, _⟩ := h
    rfl
  · obtain ⟨n, F, lot, rfl, h0, h7, hl, rfl, rfl⟩ := h
    have hu := room_u hr
    obtain ⟨m, hm⟩ : ∃ m, m = (lot.length : Int) := ⟨_, rfl⟩
    have hm0 : 0 ≤ m := by omega
    have hm7 : m ≤ 7 := by have := hl.ln; omega
    have elen : ∀ {X : Cx} {st : Sta} {owx : List OB} {e : Expr} {p pos : Pos}, X.mg "len" = none → PD X st owx e (.d (.lst (lot.map D.int))) owx → (Gl X "len") → starEach [e] X.env = [(false, eval e X.env)] → PD X st owx (.Call (.Name "len" p) [e] [] pos) (.d (.int m)) owx := fun hmn h hg he =>
      pd_eqD (pd_lenL hmn (padd_cons h padd_nil he) hg he) (by rw [List.length_map, hm])
    rw [← hm, ← n3_tab hm0 hm7]
    refine pbd_cons (psd_set 2 scPartL.nd pd_newT) ?_
    unfold n3
    generalize hg : (fun (s : Tab) q => putI s q (FP F lot q)) = g
    have hput : ∀ s q, g s q = putI s q (FP F lot q) := fun s q => by rw [← hg]
    have hD : ∀ (i j : Int) (s : Tab) (x : Int), (f3 g i j s x).length ≤ s.length + 1 := fun i j s x => by
      unfold f3
      rw [hput]
      exact putI_len _ _ _
    have hC : ∀ (i j : Int) (s : Tab), 0 ≤ j → (f2 m g i s j).length ≤ s.length + 7 := fun i j s h => by
      have := fold_len (f3 g i j) 1 (hD i j) (upr m j) s
      have := upr_len m j h hm7
      unfold f2
      omega
    have hB : ∀ (i : Int) (s : Tab), 0 ≤ i → (f1 m g s i).length ≤ s.length + 49 := fun i s h => by
      have := fold_lenM (f2 m g i) 7 (upr m i) s fun s j hj => hC i j s (by have := mem_upr hj; omega)
      have := upr_len m i h hm7
      unfold f1
      omega
    refine pbd_cons (psd_forF [3] (rngZ m) D.int [] (f1 m g) (fun _ => plSt n F lot ow.length none none none) (fun _ i => plSt n F lot ow.length (some (.d (.int i))) none none) (fun s => ow ++ [.t (tabI s)]) PassesOwn.never rfl
      (pid_eq (pid_range1 mR (padd_cons (elen mN (pd_var 1) rfl rfl) padd_nil) (by omega)) (rngD_Z m)) ⟨rfl, fun i r h => h⟩ rfl (fun l i r hl => pgd_name 3 scPartL.nd) (fun l i r hll => ?_)) ?_
    · obtain ⟨hi1, hi2, hi3⟩ := pre_mem hll
      have hi := mem_rngZ hi1
      rw [rngZ_len] at hi3
      have hL := fold_lenM (f1 m g) 49 l [] (fun s x hx => hB x s (mem_rngZ (hi2 x hx)).1)
      rw [List.length_nil] at hL
      generalize List.foldl (f1 m g) [] l = s0 at hL
      refine pbd_weak (st1 := plSt n F lot ow.length (some (.d (.int i))) none none) (pbd_cons (psd_forF [4] (upr m i) D.int s0 (f2 m g i) (fun _ => plSt n F lot ow.length (some (.d (.int i))) none none) (fun _ j => plSt n F lot ow.length (some (.d (.int i))) (some (.d (.int j))) none) (fun s => ow ++ [.t (tabI s)]) PassesOwn.never rfl
        (pid_eq (pid_range2 mR (padd_cons (pd_add (pd_var 3) pd_int) (padd_cons (elen mN (pd_var 1) rfl rfl) padd_nil)) (by omega) (by omega)) (rgZ_D _ _)) ⟨rfl, fun i r h => h⟩ rfl (fun l j r hl => pgd_name 4 scPartL.nd) (fun l j r hll => ?_)) pbd_nil) rfl (by (intro i r h; rcases i with _ | _ | _ | _ | _ | _ | i <;> first | exact h | cases h))
      obtain ⟨hj1, hj2, hj3⟩ := pre_mem hll
      have hj := mem_upr hj1
      have hji := upr_len m i hi.1 hm7
      have hL2 := fold_lenM (f2 m g i) 7 l s0 (fun s x hx => hC i x s (by have := mem_upr (hj2 x hx); omega))
      generalize List.foldl (f2 m g i) s0 l = s1 at hL2
      refine pbd_weak (st1 := plSt n F lot ow.length (some (.d (.int i))) (some (.d (.int j))) none) (pbd_cons (psd_forF [5] (upr m j) D.int s1 (f3 g i j) (fun _ => plSt n F lot ow.length (some (.d (.int i))) (some (.d (.int j))) none) (fun _ k => plSt n F lot ow.length (some (.d (.int i))) (some (.d (.int j))) (some (.d (.int k)))) (fun s => ow ++ [.t (tabI s)]) PassesOwn.never rfl
        (pid_eq (pid_range2 mR (padd_cons (pd_add (pd_var 4) pd_int) (padd_cons (elen mN (pd_var 1) rfl rfl) padd_nil)) (by omega) (by omega)) (rgZ_D _ _)) ⟨rfl, fun i r h => h⟩ rfl (fun l k r hl => pgd_name 5 scPartL.nd) (fun l k r hll => ?_)) pbd_nil) rfl (by (intro i r h; rcases i with _ | _ | _ | _ | _ | _ | i <;> first | exact h | cases h))
      obtain ⟨hk1, hk2, hk3⟩ := pre_mem hll
      have hk := mem_upr hk1
      have hkj := upr_len m j (by omega) hm7
      have hL3 := fold_len (f3 g i j) 1 (hD i j) l s1
      generalize List.foldl (f3 g i j) s1 l = s2 at hL3
      have e3 : f3 g i j s2 k = putI s2 [i, j, k] (F [gI lot i, gI lot j, gI lot k]) := by
        unfold f3
        rw [hput]
        rfl
      rw [e3]
      have hmem := three_lot h0 h7 hl hi.1 hj.1 hk.1 (show k < (lot.length : Int) by omega)
      have at_ : ∀ x : Int, 0 ≤ x → x < m → atI (lot.map D.int) x = some (.int (gI lot x)) := fun x a b => at_map (gI_ok a (by omega))
      refine pbd_weak (st1 := plSt n F lot ow.length (some (.d (.int i))) (some (.d (.int j))) (some (.d (.int k)))) (pbd_cons (psd_ow (psd_putT (ns := [i, j, k]) hu (pd_getT (ns := [gI lot i, gI lot j, gI lot k]) hu (pd_var 0) (pd_tup (padd_cons (pd_ixL (pd_var 1) (pd_var 3) (at_ i hi.1 hi.2)) (padd_cons (pd_ixL (pd_var 1) (pd_var 4) (at_ j (by omega) hj.2)) (padd_cons (pd_ixL (pd_var 1) (pd_var 5) (at_ k (by omega) hk.2)) padd_nil)))) (lookI_some (lookI_F hmem))) (pd_var 2) (pd_tup (padd_cons (pd_var 3) (padd_cons (pd_var 4) (padd_cons (pd_var 5) padd_nil)))) (k := ow.length) (gs := tabI s2) ?_ ?_) ?_) pbd_nil) rfl (by (intro i r h; rcases i with _ | _ | _ | _ | _ | _ | i <;> first | exact h | cases h))
      · rw [List.getElem?_append_right (Nat.le_refl _), Nat.sub_self]; rfl
      · rw [tabI_len]; omega
      · rw [set_last, tabI_put]
    · exact pbd_last (psd_ret (pd_var 2))
end
end Bl
set_option Elab.async false
set_option linter.all false
set_option maxRecDepth 100000
set_option maxHeartbeats 4000000
namespace Bl
open PySem PySem.Spec PyProof.Rows L2
section
variable {X : Cx} {st : Sta} {ow ow1 bs : List OB} {ss : List Stmt} {l : List D} {k : Nat}
/-- a mutable list told as data, the other new things let go -/
theorem pbd_frzRN (h : PBD X st ow ss (.ret (.own k) (ow1 ++ bs))) (hl : ow.length = ow1.length) (hk : ow1.length ≤ k) (hbk : bs[k - ow1.length]? = some (.l l)) (hb : KeepG ow ow1 := by first | exact ⟨fun _ h => h, fun _ h => h⟩ | (refine ⟨?_, ?_⟩ <;> (intro gs h; simp at h ⊢; assumption))) : PBD X st ow ss (.ret (.d (.lst l)) ow1) :=
  h.imp fun E σ H ⟨S, sl, o, q⟩ => ⟨S, sl, o, fun S1 v H1 f1 o1 d1 => by
    obtain ⟨g1, g2, g3⟩ := drop_many f1 o o1 hl hb
    obtain ⟨ps, e, hps⟩ := f1.gr
    cases d1 with
    | own hk1 =>
      obtain ⟨a, z, y⟩ := o1.ob k (.l l) (by rw [List.getElem?_append_right hk]; exact hbk)
      rw [hk1] at z
      cases z
      have hnS : _ ∉ S := fun hm => by
        rw [e, List.getElem?_append_right (by have := o.len; omega)] at hk1
        have hp := hps _ (List.mem_of_getElem? hk1)
        exact o.nin hp hm
      cases y with
      | l y w => exact q S _ H1 g1 g2 (.d (.lst (.inl ⟨hnS, .inl y⟩) (w.less g3)))⟩
end
/-! ### the parity of names -/
def cntZ (ns : List Int) (x : Int) : Int := (((ns.take x.toNat).filter fun y => decide (gI ns x < y)).length : Int)
theorem zip_rng (ns : List Int) : ns.zipIdx = (rngZ (ns.length : Int)).map fun x => (gI ns x, x.toNat) := by
  apply List.ext_getElem
  · rw [List.length_zipIdx, List.length_map, rngZ_len]; omega
  · intro i h1 h2
    rw [List.getElem_zipIdx, List.getElem_map]
    rw [List.length_zipIdx] at h1
    have e : (rngZ (ns.length : Int))[i]'(by rw [rngZ_len]; omega) = (i : Int) := by
      unfold rngZ
      rw [List.getElem_map, List.getElem_range]
      omega
    rw [e, gI_get (by omega) (by omega)]
    simp
theorem fall_sum (ns : List Int) : ((fallL ns).length : Int) = (rngZ (ns.length : Int)).foldl (fun s x => s + cntZ ns x) 0 := by
  have key : ∀ (l : List Int) (s : Int), l.foldl (fun s x => s + cntZ ns x) s = s + (((l.map fun x => (gI ns x, x.toNat)).flatMap fun p : Int × Nat => ((ns.take p.2).filter fun y => decide (p.1 < y)).map fun _ => D.int p.1).length : Int) := by
    intro l
    induction l with
    | nil => intro s; simp
    | cons x l ih =>
      intro s
      rw [List.foldl_cons, ih, List.map_cons, List.flatMap_cons, List.length_append, List.length_map]
      unfold cntZ
      push_cast
      omega
  rw [key, Int.zero_add]
  unfold fallL all2
  rw [zip_rng]
section
variable {P : Program} {w : World} {K : PySem.W.Frag} {mg : Str → Option Value} {base : Heap} {f fG : Addr} {fd fdG : FuncData} {k : Nat} {C : Addr}
abbrev sParity : Stmt := topS 50
abbrev nParity : List Str := ["_law_names", "_law_out", "_law_at", "_law_former"]
theorem scParity : FnScope nParity ["_law_names"] (defScope sParity) := ⟨rfl, rfl, rfl, by decide +kernel, rfl, by decide +kernel, by decide +kernel⟩
def gParity : GG := fun rs ow r ow' => ∃ ns : List Int, rs = [.d (.lst (ns.map D.int))] ∧ ns.length ≤ 20 ∧ r = .d (.int (parZ ns)) ∧ ow' = ow
abbrev pyS (ns : List Int) (o a b : Option R) : Sta := [some (.d (.lst (ns.map D.int))), o, a, b]
theorem ok_parity (F : Fun K "_law_parity" "_law_parity" sParity f fd) (mR : mg "range" = none) (mN : mg "len" = none) (mI : mg "int" = none) : FnOk P w K mg base CX0 (k + 1) f fd ["_law_names"] (spF K gParity) := by
  refine okF F scParity (fun rs ow r ow' h => ?_) (fun cdv A outer s H E hr rs ow r ow' h => ?_)
  · obtain ⟨ns, rfl, _⟩ := h
    rfl
  · obtain ⟨ns, rfl, hl, rfl, rfl⟩ := h
    refine pbd_cons (psd_set 1 scParity.nd pd_int) ?_
    refine pbd_cons (psd_forF [2] (rngZ (ns.length : Int)) D.int (0 : Int) (fun s x => s + cntZ ns x) (fun s => pyS ns (some (.d (.int s))) none none) (fun s x => pyS ns (some (.d (.int s))) (some (.d (.int x))) none) (fun _ => ow') PassesOwn.never rfl
      (pid_eq (pid_range1 mR (padd_cons (pd_eqD (d' := .int (ns.length : Int)) (pd_lenL mN (padd_cons (pd_var 0) padd_nil)) (by rw [List.length_map])) padd_nil) (by omega)) (rngD_Z _)) ⟨rfl, fun i r h => h⟩ rfl (fun l x r hl => pgd_name 2 scParity.nd) (fun l x r hl => ?_)) ?_
    · have hx := mem_rngZ (pre_mem hl).1
      generalize List.foldl (fun s x => s + cntZ ns x) 0 l = s0
      have ex : x = ((x.toNat : Nat) : Int) := by omega
      have hat : atI (ns.map D.int) x = some (.int (gI ns x)) := at_map (gI_ok hx.1 (by omega))
      have hcut : cutD (ns.map D.int) none (some x) = (ns.take x.toNat).map D.int := by
        conv => lhs; rw [ex]
        rw [cut_take, List.map_take]
      refine pbd_weak (st1 := pyS ns (some (.d (.int (s0 + cntZ ns x)))) (some (.d (.int x))) none) (pbd_cons (psd_augI 1 scParity.nd rfl (pd_eqD (d' := .int (cntZ ns x)) (pd_lenL mN (padd_cons (pd_lc (own := [("_law_former", 3)]) (ns.take x.toNat) D.int (fun y => pyS ns (some (.d (.int s0))) (some (.d (.int x))) (some (.d (.int y)))) (fun y => decide (gI ns x < y)) D.int
        rfl scParity.nd (pid_eq (pid_list (pd_slL (pd_var 0) pod_none (pod_some (pd_var 2)))) hcut) (blkOk_by (N := nParity) (sc := defScope sParity) (by decide +kernel)) (by rw [List.length_take]; omega) (fun y hy _ H C' cl fp => pgd_name 3 scParity.nd)
        (fun y hy l _ H C' cl fp => ptsd_one (ptd_gt (pd_var 3) (pd_ixL (pd_var 0) (pd_var 2) hat))) (fun y hy _ l _ H C' cl fp => pd_var 3)) padd_nil)) (by rw [List.length_map]; rfl))) pbd_nil) rfl (by (intro i r h; rcases i with _ | _ | _ | _ | i <;> first | exact h | cases h))
    · rw [← fall_sum]
      unfold parZ
      refine pbd_ifL (ptd_eq (pd_mod (pd_int1 mI (padd_cons (pd_var 1) padd_nil)) pd_int (by decide)) pd_int) (fun hb => ?_) trivial (fun hb => ?_)
      · rw [iv_eq] at hb
        have := of_decide_eq_true hb
        rw [if_neg (by omega)]
        exact pbd_last (psd_ret (pd_neg pd_int))
      · rw [iv_eq] at hb
        have := of_decide_eq_false hb
        rw [if_pos (by omega)]
        exact pbd_last (psd_ret pd_int)
end
/-! ### a lot mixed -/
theorem map_erase {α β : Type} (f : α → β) : ∀ (l : List α) (j : Nat), (l.map f).eraseIdx j = (l.eraseIdx j).map f
  | [], _ => rfl
  | _ :: _, 0 => rfl
  | a :: l, j + 1 => congrArg (f a :: ·) (map_erase f l j)
structure MX where
  ps : List Int
  left : List Int
  mixed : List Int
def mixJ (s : MX) : Nat := (nextV s.ps (s.left.length : Int)).toNat
def mixStep (s : MX) (_ : Int) : MX := ⟨s.ps.dropLast, s.left.eraseIdx (mixJ s), s.mixed ++ [s.left.getD (mixJ s) 0]⟩
def mixZ (ps lot : List Int) : MX := (rngZ (lot.length : Int)).foldl mixStep ⟨ps, lot, []⟩
theorem mixJ_lt {s : MX} (h : 0 < s.left.length) : mixJ s < s.left.length := by
  have := nextV_rng s.ps (show (0 : Int) < (s.left.length : Int) by omega)
  unfold mixJ
  omega
theorem mix_len : ∀ (l : List Int) (s : MX), l.length ≤ s.left.length → (l.foldl mixStep s).left.length + l.length = s.left.length ∧ (l.foldl mixStep s).mixed.length = s.mixed.length + l.length
  | [], s, _ => ⟨rfl, rfl⟩
  | a :: l, s, h => by
    rw [List.length_cons] at h
    have hj := mixJ_lt (s := s) (by omega)
    have e1 : (mixStep s a).left.length = s.left.length - 1 := by show (s.left.eraseIdx (mixJ s)).length = _; rw [List.length_eraseIdx_of_lt hj]
    have e2 : (mixStep s a).mixed.length = s.mixed.length + 1 := by show (s.mixed ++ [_]).length = _; rw [List.length_append]; rfl
    obtain ⟨g1, g2⟩ := mix_len l (mixStep s a) (by omega)
    rw [List.foldl_cons, List.length_cons]
    exact ⟨by omega, by omega⟩
theorem getElem_perm_erase : ∀ {l : List Int} {j : Nat} (h : j < l.length), (l[j] :: l.eraseIdx j).Perm l
  | a :: l, 0, _ => .refl _
  | a :: l, j + 1, h => by
    have hj : j < l.length := Nat.lt_of_succ_lt_succ h
    have ih := getElem_perm_erase hj
    show (l[j]'hj :: a :: l.eraseIdx j).Perm (a :: l)
    exact (List.Perm.swap a (l[j]'hj) (l.eraseIdx j)).trans (ih.cons a)
theorem mix_perm : ∀ (l : List Int) (s : MX), l.length ≤ s.left.length → ((l.foldl mixStep s).mixed ++ (l.foldl mixStep s).left).Perm (s.mixed ++ s.left)
  | [], s, _ => .refl _
  | a :: l, s, h => by
    rw [List.length_cons] at h
    have hj := mixJ_lt (s := s) (by omega)
    have e1 : (mixStep s a).left.length = s.left.length - 1 := by show (s.left.eraseIdx (mixJ s)).length = _; rw [List.length_eraseIdx_of_lt hj]
    refine (mix_perm l (mixStep s a) (by omega)).trans ?_
    show ((s.mixed ++ [s.left.getD (mixJ s) 0]) ++ s.left.eraseIdx (mixJ s)).Perm _
    rw [List.append_assoc, List.getD_eq_getElem?_getD, List.getElem?_eq_getElem hj]
    exact (getElem_perm_erase hj).append_left _
theorem mixZ_perm (ps lot : List Int) : (mixZ ps lot).mixed.Perm lot := by
  have h1 := mix_len (rngZ (lot.length : Int)) ⟨ps, lot, []⟩ (by rw [rngZ_len]; show _ ≤ lot.length; omega)
  have h2 := mix_perm (rngZ (lot.length : Int)) ⟨ps, lot, []⟩ (by rw [rngZ_len]; show _ ≤ lot.length; omega)
  have e : (mixZ ps lot).left = [] := List.length_eq_zero_iff.mp (by
    have h1 := h1.1
    rw [rngZ_len] at h1
    have h1 : (mixZ ps lot).left.length + _ = lot.length := h1
    omega)
  have h2 : ((mixZ ps lot).mixed ++ (mixZ ps lot).left).Perm lot := h2
  rw [e, List.append_nil] at h2
  exact h2
section
variable {P : Program} {w : World} {K : PySem.W.Frag} {mg : Str → Option Value} {base : Heap} {f fG : Addr} {fd fdG : FuncData} {k : Nat} {C : Addr}
abbrev sMixed : Stmt := topS 51
abbrev nMixed : List Str := ["_law_pool_here", "_law_lot_here", "_law_left", "_law_mixed_here", "_law_turn"]
theorem scMixed : FnScope nMixed ["_law_pool_here", "_law_lot_here"] (defScope sMixed) := ⟨rfl, rfl, rfl, by decide +kernel, rfl, by decide +kernel, by decide +kernel⟩
def gMixed : GG := fun rs ow r ow' => ∃ (kp : Nat) (lot ps : List Int), rs = [.own kp, .d (.lst (lot.map D.int))] ∧ ow[kp]? = some (.l (ps.map D.int)) ∧ lot.length ≤ 100 ∧ r = .d (.lst ((mixZ ps lot).mixed.map D.int)) ∧ ow' = ow.set kp (.l ((mixZ ps lot).ps.map D.int))
abbrev mxS (kp : Nat) (lot : List Int) (n : Nat) (t : Option R) : Sta := [some (.own kp), some (.d (.lst (lot.map D.int))), some (.own n), some (.own (n + 1)), t]
theorem ok_mixed (F : Fun K "_law_mixed" "_law_mixed" sMixed f fd) (C1 : Fg P w K mg base "_law_next" k ["_law_pool_here", "_law_many"] gNext) (mR : mg "range" = none) (mN : mg "len" = none) (mL : mg "list" = none) : FnOk P w K mg base CX0 (k + 1) f fd ["_law_pool_here", "_law_lot_here"] (spF K gMixed) := by
  refine okF F scMixed (fun rs ow r ow' h => ?_) (fun cdv A outer s H E hr rs ow r ow' h => ?_)
  · obtain ⟨kp, lot, ps, rfl, _⟩ := h
    rfl
  · obtain ⟨kp, lot, ps, rfl, hk, hl, rfl, rfl⟩ := h
    have hkl : kp < ow.length := (List.getElem?_eq_some_iff.mp hk).1
    refine pbd_frzRN (k := ow.length + 1) (bs := [.l ((mixZ ps lot).left.map D.int), .l ((mixZ ps lot).mixed.map D.int)]) ?_ (by rw [List.length_set]) (by rw [List.length_set]; omega) (by rw [List.length_set, Nat.add_sub_cancel_left]; rfl) keepg_set
    refine pbd_cons (psd_set 2 scMixed.nd (pd_listO mL (pd_var 1) rfl)) ?_
    refine pbd_cons (psd_set 3 scMixed.nd (pd_lstO padd_nil)) ?_
    have el : (ow ++ [OB.l (lot.map D.int)]).length = ow.length + 1 := by rw [List.length_append]; rfl
    rw [el]
    show PBD _ (mxS kp lot ow.length none) _ _ _
    refine pbd_cons (psd_forF [4] (rngZ (lot.length : Int)) D.int (⟨ps, lot, []⟩ : MX) mixStep (fun _ => mxS kp lot ow.length none) (fun _ x => mxS kp lot ow.length (some (.d (.int x)))) (fun s => ow.set kp (.l (s.ps.map D.int)) ++ [.l (s.left.map D.int), .l (s.mixed.map D.int)]) PassesOwn.never rfl
      (pid_eq (pid_range1 mR (padd_cons (pd_eqD (d' := .int (lot.length : Int)) (pd_lenL mN (padd_cons (pd_var 1) padd_nil)) (by rw [List.length_map])) padd_nil) (by omega)) (rngD_Z _)) ⟨rfl, fun i r h => h⟩ ?_ (fun l x r hl => pgd_name 4 scMixed.nd) (fun l x r hll => ?_)) ?_
    · show ow.set kp (.l (ps.map D.int)) ++ _ = _
      rw [set_same hk, List.append_assoc]
      rfl
    · have h1 := mix_len l ⟨ps, lot, []⟩ (by
        have := congrArg List.length hll
        rw [rngZ_len, List.length_append, List.length_cons] at this
        show l.length ≤ lot.length
        omega)
      have h2 : l.length < lot.length := by
        have := congrArg List.length hll
        rw [rngZ_len, List.length_append, List.length_cons] at this
        omega
      have h3 : (l.foldl mixStep ⟨ps, lot, []⟩).left.length + l.length = lot.length := h1.1
      have h4 : (l.foldl mixStep ⟨ps, lot, []⟩).mixed.length = 0 + l.length := h1.2
      generalize List.foldl mixStep ⟨ps, lot, []⟩ l = s0 at h3 h4
      obtain ⟨qs, left, mixed⟩ := s0
      have h3 : left.length + l.length = lot.length := h3
      have h4 : mixed.length = 0 + l.length := h4
      have hj := mixJ_lt (s := ⟨qs, left, mixed⟩) (show 0 < left.length by omega)
      have hj : mixJ ⟨qs, left, mixed⟩ < left.length := hj
      have hx := nextV_rng qs (show (0 : Int) < (left.length : Int) by omega)
      have ej : nextV qs (left.length : Int) = ((mixJ ⟨qs, left, mixed⟩ : Nat) : Int) := by
        unfold mixJ
        show _ = (((nextV qs (left.length : Int)).toNat : Nat) : Int)
        omega
      show PBD _ _ (ow.set kp (.l (qs.map D.int)) ++ [.l (left.map D.int), .l (mixed.map D.int)]) _ (.nx _ (ow.set kp (.l (qs.dropLast.map D.int)) ++ [.l ((left.eraseIdx (mixJ ⟨qs, left, mixed⟩)).map D.int), .l ((mixed ++ [left.getD (mixJ ⟨qs, left, mixed⟩) 0]).map D.int)]))
      generalize mixJ ⟨qs, left, mixed⟩ = j at hj ej
      have hsl : ∀ b : OB, (ow.set kp b).length = ow.length := fun b => List.length_set
      have g0 : ∀ (b c d : OB), (ow.set kp b ++ [c, d])[kp]? = some b := fun b c d => by
        rw [List.getElem?_append_left (by rw [hsl]; exact hkl), List.getElem?_set_self hkl]
      have g1 : ∀ (b c d : OB), (ow.set kp b ++ [c, d])[ow.length]? = some c := fun b c d => by
        rw [List.getElem?_append_right (by rw [hsl]; exact Nat.le_refl _), hsl, Nat.sub_self]; rfl
      have g2 : ∀ (b c d : OB), (ow.set kp b ++ [c, d])[ow.length + 1]? = some d := fun b c d => by
        rw [List.getElem?_append_right (by rw [hsl]; omega), hsl, Nat.add_sub_cancel_left]; rfl
      have s0 : ∀ (b b' c d : OB), (ow.set kp b ++ [c, d]).set kp b' = ow.set kp b' ++ [c, d] := fun b b' c d => by
        rw [List.set_append_left _ _ (by rw [hsl]; exact hkl), List.set_set]
      have s1 : ∀ (b c c' d : OB), (ow.set kp b ++ [c, d]).set ow.length c' = ow.set kp b ++ [c', d] := fun b c c' d => by
        rw [List.set_append_right _ _ (by rw [hsl]; exact Nat.le_refl _), hsl, Nat.sub_self]; rfl
      have s2 : ∀ (b c d d' : OB), (ow.set kp b ++ [c, d]).set (ow.length + 1) d' = ow.set kp b ++ [c, d'] := fun b c d d' => by
        rw [List.set_append_right _ _ (by rw [hsl]; omega), hsl, Nat.add_sub_cancel_left]; rfl
      refine pbd_weak (st1 := mxS kp lot ow.length (some (.d (.int x)))) (pbd_cons (psd_expr (pd_ow (pd_append (pd_var 3) (pd_ow (pd_popAt (l := left.map D.int) (d := .int (left.getD j 0)) (j := j) (pd_var 2) (pd_eqD (pd_ow (pd_cg C1 hr (Nat.le_refl _) (pad_cons (pd_var 0) (padd_cons (pd_eqD (d' := .int (left.length : Int)) (pd_lenO mN (pd_var 2) (g1 _ _ _)) (by rw [List.length_map])) padd_nil)) ⟨kp, (left.length : Int), qs, rfl, g0 _ _ _, by omega, rfl, rfl⟩) (s0 _ _ _ _)) (by rw [ej])) ⟨_, g1 _ _ _⟩ (g1 _ _ _) ?_ (by rw [List.length_map]; omega)) (s1 _ _ _ _)) ⟨_, g2 _ _ _⟩ (g2 _ _ _) (by rw [List.length_map]; omega)) ?_)) pbd_nil) rfl (by (intro i r h; rcases i with _ | _ | _ | _ | _ | i <;> first | exact h | cases h))
      · rw [List.getElem?_map, List.getD_eq_getElem?_getD, List.getElem?_eq_getElem hj]; rfl
      · rw [s2, map_erase, List.map_append]
        rfl
    · exact pbd_last (psd_ret (pd_var 3))
end
end Bl
set_option Elab.async false
set_option linter.all false
set_option maxRecDepth 100000
set_option maxHeartbeats 4000000
namespace Bl
open PySem PySem.Spec PyProof.Rows L2
section
variable {X : Cx} {C f : Addr} {fd : FuncData} {ps : List Str} {sp : Sp} {n : Nat}
/-- == of two instances of a class with an own __eq__ -/
theorem op_eqOwn (F : FnOk X.prog X.w X.K X.mg X.base CX0 n f fd ps sp) (hs : PySem.W.findIn X.K (.ref C) "__eq__" = some (some (.ref f))) (hf : PySem.W.isFn X.K (.ref f) = true) (hb : Binds X.K fd ps []) (hr : Room n X.A) :
    OpR X (compareOp .Eq) (fun x y H Q => ∃ a b dx dy fs gs, x = .ref a ∧ y = .ref b ∧ H a = some (.ins C dx fs) ∧ H b = some (.ins C dy gs) ∧ sp [x, y] H (fun v H' => ∃ q, v = .bl q ∧ Q (.bl q) H') E0) := by
  intro pins s σ H x y u v Q I rx ry d
  obtain ⟨a, b, dx, dy, fs, gs, rfl, rfl, ha, hb', hsp⟩ := d
  cases rx
  cases ry
  obtain ⟨mA, J, _⟩ := ins_get I.hok ha
  obtain ⟨mB, J', _⟩ := ins_get I.hok hb'
  obtain ⟨od, J, _⟩ := J.look
  obtain ⟨od', J', _⟩ := J'.look
  obtain ⟨m, hF⟩ := I.fr
  show wpAny (model X.prog X.w) X.A (richCompare .Eq _ _) _ X.xe s
  refine PySem.W.cmp_K (op := .Eq) (tb := .ref C) hr.units0 hF I.ok.mod.kin J J'.type (by simp [PySem.W.notFirst]) hs hf ?_
  have hsp' : sp ([V.ref a, V.ref b] ++ []) H (fun v H' => ∃ q, v = .bl q ∧ Q (.bl q) H') E0 := hsp
  refine wpAny_mono (run_fn (us := [.ref a, .ref b]) (vs := [.ref a, .ref b]) F hr hb .nil pass0 I (.cons rfl (.cons rfl .nil)) hsp') (fun r s' hq => ?_) fun _ _ z => z
  obtain ⟨z, H', I', rz, q, eq, hQ⟩ := hq
  subst eq
  cases rz
  exact ⟨.bl q, H', I', rfl, hQ⟩
end
section
variable {X : Cx} {C f : Addr} {fd : FuncData} {ps : List Str} {k : Nat} {g : GG} {a b : Expr} {st : Sta} {ow ow1 ow2 ow3 : List OB} {pos : Pos} {gs1 gs2 : List (Str × D)} {bl : Bool}
theorem den_insA {K : PySem.W.Frag} {S : List Addr} {H : Hp} {v : V} {gs : List (Str × D)} (h : Den K S H v (.ins C gs)) : ∃ a dx fs, v = .ref a ∧ H a = some (.ins C dx fs) := by
  cases h with
  | ins n h r => exact ⟨_, _, _, rfl, h⟩
theorem pd_eqI (F : FnOk X.prog X.w X.K X.mg X.base CX0 k f fd ps (spF X.K g)) (hs : PySem.W.findIn X.K (.ref C) "__eq__" = some (some (.ref f))) (hf : PySem.W.isFn X.K (.ref f) = true) (hbd : Binds X.K fd ps []) (hr : Room k X.A) (ha : PD X st ow a (.d (.ins C gs1)) ow1) (hb : PD X st ow1 b (.d (.ins C gs2)) ow2) (hgg : g [.d (.ins C gs1), .d (.ins C gs2)] ow2 (.d (.bl bl)) ow3) : PD X st ow (.Compare a [.Eq] [b] pos) (.d (.bl bl)) ow3 :=
  (pe_cmpR (op_eqOwn F hs hf hbd hr) ha hb (nomark _)).imp fun σ H Q ⟨S, sl, o, q⟩ => ⟨S, sl, o, fun S1 v1 H1 f1 o1 d1 => ⟨S1, f1.slots sl, o1, fun S2 v2 H2 f2 o2 d2 => by
    cases d1 with
    | d d1 =>
      cases d2 with
      | d d2 =>
        have d1' : Den X.K S2 H2 v1 (.ins C gs1) := f2.den d1
        obtain ⟨a, dx, fs, ea, ha⟩ := den_insA d1'
        obtain ⟨b, dy, fs2, eb, hb⟩ := den_insA d2
        refine ⟨a, b, dx, dy, fs, fs2, ea, eb, ha, hb, S2, [.d (.ins C gs1), .d (.ins C gs2)], ow2, .d (.bl bl), ow3, .cons (.d d1') (.cons (.d d2) .nil), o2, hgg, fun S3 v H3 f3 o3 d3 => ?_⟩
        cases d3 with
        | d d3 => exact ⟨bl, d3.of_bl, q S3 _ H3 (f1.trans o1 (f2.trans o2 f3)) o3 (.d (.bl bl))⟩⟩⟩
end
end Bl
set_option Elab.async false
set_option linter.all false
set_option maxRecDepth 100000
set_option maxHeartbeats 4000000
namespace Bl
open PySem PySem.Spec PyProof.Rows L2
section
variable {X : Cx} {C f : Addr} {fd : FuncData} {ps : List Str} {sp : Sp} {n : Nat}
theorem run_fn1 {pins : List (Addr × Obj)} {σ : L2.St} {H : Hp} {s : Shared} {Q : VK} {us : List Value} {vs : List V} {EE : Value → Shared → Prop} (F : FnOk X.prog X.w X.K X.mg X.base CX0 n f fd ps sp) (hr : Room (n + 1) X.A) (hb : Binds X.K fd ps [])
    (I : Inv X pins σ H s) (r : Vals vs us) (h : sp vs H Q E0) : wpAny (model X.prog X.w) X.A.in1 (call (.ref f) us) (EP X pins σ Q) X.xe s := by
  have hl : us.length = ps.length := by rw [← r.length]; exact F.len _ _ _ _ h
  have e0 : Env0 X.prog X.w X.K X.mg X.base X.A.in1 X.stack s H := by
    have e := I.env0
    exact ⟨e.frames, e.mod, e.bs, e.bsz, e.funs, e.frf, e.hok, e.bare⟩
  refine wpAny_call (codeAny_mono (F.run X.A.in1 X.stack s H ⟨us, []⟩ us vs Q E0 hr.in1 e0 (by
    have := hb s us I.kIn (by simpa using hl)
    simpa using this) r h) fun r s' hq => ?_)
  cases r with
  | error e => exact pass0 pins σ H s e s' I hq
  | ok fl =>
    cases fl with
    | ret w => exact I.after hq
    | next => exact False.elim hq
    | brk => exact False.elim hq
    | cont => exact False.elim hq
/-- a[b], a an instance of a class with an own __getitem__ -/
theorem pe_ixOwn {a b : Expr} {ta tb : TE} {pos : Pos} (F : FnOk X.prog X.w X.K X.mg X.base CX0 n f fd ps sp) (hs : PySem.W.findIn X.K (.ref C) "__getitem__" = some (some (.ref f))) (hf : PySem.W.isFn X.K (.ref f) = true) (hfn : PySem.W.fnIn X.K f = true) (hbd : Binds X.K fd ps []) (hr : Room (n + 1) X.A) (ha : PE X a ta) (hb : PE X b tb)
    (hsl : ∀ v u, subscripted b true v u = runValue (.builtin "lifetime.subscript" ⟨[v, u], []⟩)) : PE X (.Subscript a b pos) (tOp (fun x y H Q => ∃ ax dx fs, x = .ref ax ∧ H ax = some (.ins C dx fs) ∧ sp [x, y] H Q E0) ta tb) := by
  refine ⟨fun pins s σ H Q I h => ?_⟩
  refine Subscript_ (binT ha hb I h fun v u s2 x y H2 I2 rx ry q => ?_)
  obtain ⟨ax, dx, fs, rfl, hax, hsp⟩ := q
  cases rx
  obtain ⟨mA, J, _⟩ := ins_get I2.hok hax
  obtain ⟨od, J, _⟩ := J.look
  obtain ⟨m, hF⟩ := I2.fr
  exact PySem.W.sub_K hF I2.ok.mod.kin J hs hfn hf (run_fn1 (EE := X.xe) F hr hbd I2 (vs := [.ref ax, y]) (.cons rfl (.cons ry .nil)) hsp) (hsl _ _)
end
section
variable {X : Cx} {C f : Addr} {fd : FuncData} {ps : List Str} {k : Nat} {g : GG} {a b : Expr} {st : Sta} {ow ow1 ow2 ow3 : List OB} {pos : Pos} {gs1 : List (Str × D)} {d d2 : D}
theorem pd_ixI (F : FnOk X.prog X.w X.K X.mg X.base CX0 k f fd ps (spF X.K g)) (hs : PySem.W.findIn X.K (.ref C) "__getitem__" = some (some (.ref f))) (hf : PySem.W.isFn X.K (.ref f) = true) (hfn : PySem.W.fnIn X.K f = true) (hbd : Binds X.K fd ps []) (hr : Room (k + 1) X.A) (ha : PD X st ow a (.d (.ins C gs1)) ow1) (hb : PD X st ow1 b (.d d2) ow2) (hgg : g [.d (.ins C gs1), .d d2] ow2 (.d d) ow3)
    (hsl : ∀ v u, subscripted b true v u = runValue (.builtin "lifetime.subscript" ⟨[v, u], []⟩) := by exact fun _ _ => rfl) : PD X st ow (.Subscript a b pos) (.d d) ow3 :=
  (pe_ixOwn F hs hf hfn hbd hr ha hb hsl).imp fun σ H Q ⟨S, sl, o, q⟩ => ⟨S, sl, o, fun S1 v1 H1 f1 o1 d1 => ⟨S1, f1.slots sl, o1, fun S2 v2 H2 f2 o2 d2 => by
    cases d1 with
    | d d1 =>
      cases d2 with
      | d d2 =>
        have d1' : Den X.K S2 H2 v1 (.ins C gs1) := f2.den d1
        obtain ⟨a, dx, fs, ea, ha⟩ := den_insA d1'
        exact ⟨a, dx, fs, ea, ha, S2, [.d (.ins C gs1), .d _], ow2, .d d, ow3, .cons (.d d1') (.cons (.d d2) .nil), o2, hgg, fun S3 v H3 f3 o3 d3 => q S3 v H3 (f1.trans o1 (f2.trans o2 f3)) o3 d3⟩⟩⟩
end
end Bl
set_option Elab.async false
set_option linter.all false
set_option maxRecDepth 100000
set_option maxHeartbeats 8000000
namespace Bl
open PySem PySem.Spec PyProof.Rows L2
section
variable {X : Cx} {e a b : Expr} {st : Sta} {ow ow1 ow2 : List OB} {p p2 q1 p1 pos : Pos} {ds : List D} {i j : Int}
def tDO2 (K : PySem.W.Frag) (st : Sta) (ow : List OB) (w : Option Int) (ow' : List OB) : TO := fun σ H Q => ∃ S, Slots K S H σ st ∧ Owns K S H ow ∧ ∀ S' H', Fwd S H S' H' → Owns K S' H' ow' → Q w H'
theorem pod_some2 (h : PD X st ow e (.d (.int i)) ow1) : PO X (some e) (tDO2 X.K st ow (some i) ow1) := (po_some h).imp fun σ H Q ⟨S, sl, o, k⟩ => ⟨S, sl, o, fun S1 v H1 f1 o1 d1 => by
  cases d1 with
  | d d1 => exact ⟨i, d1.of_int, k S1 H1 f1 o1⟩⟩
/-- e[:hi], hi changing the mutable things -/
theorem pd_slLo (he : PD X st ow e (.d (.lst ds)) ow1) (h : PD X st ow1 a (.d (.int i)) ow2) : PD X st ow (.Subscript e (.Slice none (some a) none p2) pos) (.d (.lst (cutD ds none (some i)))) ow2 :=
  (pe_slice sl_list he pod_none (pod_some2 h)).imp fun σ H Q ⟨S, sl, o, k⟩ => ⟨S, sl, o, fun S1 v H1 f1 o1 d1 => ⟨S1, f1.slots sl, o1, fun S2 H2 f2 o2 => ⟨S2, (f1.trans o1 f2).slots sl, o2, fun S3 H3 f3 o3 => by
    cases d1 with
    | d d1 =>
      obtain ⟨a, xs, rfl, h1, h2⟩ := d1.of_lst
      have f23 := f2.trans o2 f3
      have l3 : Den X.K S3 H3 (.ref a) (.lst ds) := f23.den d1
      obtain ⟨a', xs', e', h1', h2'⟩ := l3.of_lst
      cases e'
      exact ⟨a, xs', rfl, h1'.sq, fun p hp => k S3 _ _ (f1.trans o1 (f23.trans o3 (.of (Evl.Ex.new hp)))) (o3.ex (Evl.Ex.new hp)) (.d (new_lst o3 hp (dens_cut h2')))⟩⟩⟩⟩
/-- list(range(i, j)), the ints told -/
theorem pd_lstRg2 (ns : List Int) (hc : X.calm = true) (hm : X.mg "list" = none) (hr : X.mg "range" = none) (ha : PD X st ow a (.d (.int i)) ow1) (hb : PD X st ow1 b (.d (.int j)) ow2) (ok : RgOk i j) (hv : rgV i j = ns.map V.int) (hg : Gl X "list" := by rfl) (hg2 : Gl X "range" := by rfl) (na : starEach [a, b] X.env = (false, eval a X.env) :: starEach [b] X.env := by rfl) (nb : starEach [b] X.env = (false, eval b X.env) :: starEach [] X.env := by rfl) (hp : (backTo p1 (starEach [b] X.env)).any (·.1) = false := by rfl)
    (nc : starEach [.Call (.Name "range" q1) [a, b] [] p1] X.env = (false, eval (.Call (.Name "range" q1) [a, b] [] p1) X.env) :: starEach [] X.env := by rfl) : PD X st ow (.Call (.Name "list" p) [.Call (.Name "range" q1) [a, b] [] p1] [] pos) (.d (.lst (ns.map D.int))) ow2 :=
  (pe_listRg hc hg hm (prg_2 hg2 hr ha hb na nb hp) nc).imp fun σ H Q ⟨S, sl, o, k⟩ => ⟨S, sl, o, fun S1 v H1 f1 o1 d1 => ⟨S1, f1.slots sl, o1, fun S2 v2 H2 f2 o2 d2 => by
    cases d1 with
    | d d1 =>
      cases d2 with
      | d d2 =>
        refine ⟨i, j, d1.of_int, d2.of_int, ok, fun q hq => ?_⟩
        rw [hv]
        exact k S2 _ _ (f1.trans o1 (f2.trans o2 (.of (Evl.Ex.new hq)))) (o2.ex (Evl.Ex.new hq)) (.d (new_lst o2 hq (Dens.of_ints _)))⟩⟩
end
section
variable {P : Program} {w : World} {K : PySem.W.Frag} {mg : Str → Option Value} {base : Heap} {f fE fG : Addr} {fd fdE fdG : FuncData} {k : Nat} {C : Addr}
/-! ### chart[..], chart == chart -/
abbrev sGetI : Stmt := inClass (topS 34) 19
abbrev sEqC : Stmt := inClass (topS 34) 20
theorem scGetI : FnScope ["self", "at"] ["self", "at"] (defScope sGetI) := ⟨rfl, rfl, rfl, by decide +kernel, rfl, by decide +kernel, by decide +kernel⟩
theorem scEqC : FnScope ["self", "other"] ["self", "other"] (defScope sEqC) := ⟨rfl, rfl, rfl, by decide +kernel, rfl, by decide +kernel, by decide +kernel⟩
theorem ok_getI (F : Fun K "__getitem__" "Chart.__getitem__" sGetI f fd) (T : ChTxt K C) (M1 : Mt P w K mg base C "sign" k ["self", "names"] (gSign C)) : FnOk P w K mg base CX0 (k + 1) f fd ["self", "at"] (spF K (gSign C)) := by
  refine okF F scGetI (fun rs ow r ow' h => ?_) (fun cdv A outer s H E hr rs ow r ow' h => ?_)
  · obtain ⟨t, n, ns, qs, rfl, _⟩ := h
    rfl
  · have h' := h
    obtain ⟨t, n, ns, qs, rfl, _⟩ := h'
    exact pbd_last (psd_ret (pd_mt M1 (pd_var 0) T.cl hr (Nat.le_refl _) (padd_cons (pd_var 1) padd_nil) (chF_no n ns (by decide +kernel) (by decide +kernel) (by decide +kernel) (by decide +kernel)) h))
def gEqC (C : Addr) : GG := fun rs ow r ow' => ∃ (n m : Int) (ns ms : List Int), rs = [.d (chartD C n ns), .d (chartD C m ms)] ∧ r = .d (.bl (decide (n = m) && decide (ns = ms))) ∧ ow' = ow
theorem ok_eqC (F : Fun K "__eq__" "Chart.__eq__" sEqC f fd) (T : ChTxt K C) (oc : OwnC K C) (mI : mg "isinstance" = none) (mC : mg "Chart" = some (.ref C)) : FnOk P w K mg base CX0 (k + 1) f fd ["self", "other"] (spF K (gEqC C)) := by
  refine okF F scEqC (fun rs ow r ow' h => ?_) (fun cdv A outer s H E hr rs ow r ow' h => ?_)
  · obtain ⟨n, m, ns, ms, rfl, _⟩ := h
    rfl
  · obtain ⟨n, m, ns, ms, rfl, rfl, rfl⟩ := h
    have hu := room_u64 hr
    refine pbd_last (psd_ret (pd_eqB (pd_and (pd_isC mI mC oc (pd_var 1)) (fun _ => pd_and (rest := []) (pd_eq (pd_fld (pd_var 0) T.cl T.size (chF_size n ns)) (pd_fld (pd_var 1) T.cl T.size (chF_size m ms))) (fun _ => pd_one (pd_cmp (op_eqD hu) (nomark _) (rd_eqTT (ns := ns) (ms := ms) rfl rfl) (pd_fld (pd_var 0) T.cl T.signs (chF_signs n ns)) (pd_fld (pd_var 1) T.cl T.signs (chF_signs m ms)))))) ?_))
    rw [iv_eq, Bool.true_and]
end
end Bl
set_option Elab.async false
set_option linter.all false
set_option maxRecDepth 100000
set_option maxHeartbeats 16000000
namespace Bl
open PySem PySem.Spec PyProof.Rows L2
section
variable {P : Program} {w : World} {K : PySem.W.Frag} {mg : Str → Option Value} {base : Heap} {f fE fG : Addr} {fd fdE fdG : FuncData} {k kg : Nat} {C : Addr} {psG : List Str}
abbrev sOrdK : Stmt := topS 54
abbrev nOrdK : List Str := ["_law_pool_here", "_law_chart", "_law_size_here", "_law_table_here", "_law_x", "_law_y", "_law_z", "_law_three", "_law_due", "_law_names"]
abbrev pOrdK : List Str := ["_law_pool_here", "_law_chart", "_law_size_here", "_law_table_here"]
theorem scOrdK : FnScope nOrdK pOrdK (defScope sOrdK) := ⟨rfl, rfl, rfl, by decide +kernel, rfl, by decide +kernel, by decide +kernel⟩
abbrev seven : List Int := [-2, -1, 0, 1, 2, 3, 4]
abbrev tabD' (n : Int) (F : List Int → Int) : D := .dT (tabI (tabF n F))
def gOrdK (C : Addr) : GG := fun rs ow r ow' => ∃ (kp : Nat) (ps : List Int) (n : Int) (F : List Int → Int), rs = [.own kp, .d (chartD C n (cns n F)), .d (.int n), .d (tabD' n F)] ∧ ow[kp]? = some (.l (ps.map D.int)) ∧ 1 ≤ n ∧ n ≤ 7 ∧ SgnF F ∧ r = .d (.bl true) ∧ ow' = ow.set kp (.l ((mixZ ps seven).ps.dropLast.map D.int))
abbrev okS (C : Addr) (kp : Nat) (n : Int) (F : List Int → Int) (x y z t d m : Option R) : Sta := [some (.own kp), some (.d (chartD C n (cns n F))), some (.d (.int n)), some (.d (tabD' n F)), x, y, z, t, d, m]
theorem ns1' : ¬ (("sign" : Str) = "_table") := by decide +kernel
theorem ns2' : ¬ (("sign" : Str) = "lines") := by decide +kernel
theorem ns3' : ¬ (("sign" : Str) = "signs") := by decide +kernel
theorem ns4' : ¬ (("sign" : Str) = "size") := by decide +kernel
theorem seven_rg : rgV (-2) 5 = seven.map V.int := by decide +kernel
theorem ok_ordK (F0 : Fun K "_law_orders_kept" "_law_orders_kept" sOrdK f fd) (T : ChTxt K C) (M1 : Mt P w K mg base C "sign" k ["self", "names"] (gSign C)) (GI : FnOk P w K mg base CX0 kg fG fdG psG (spF K (gSign C))) (hkg : kg + 1 ≤ k) (hgi : PySem.W.findIn K (.ref C) "__getitem__" = some (some (.ref fG))) (hgf : PySem.W.isFn K (.ref fG) = true) (hgn : PySem.W.fnIn K fG = true) (bG : Binds K fdG psG [])
    (C1 : Fg P w K mg base "_law_parity" k ["_law_names"] gParity) (C2 : Fg P w K mg base "_law_mixed" k ["_law_pool_here", "_law_lot_here"] gMixed) (C3 : Fg P w K mg base "_law_next" k ["_law_pool_here", "_law_many"] gNext) (C4 : Fg P w K mg base "order_sign" k ["names"] gOrdSign)
    (mR : mg "range" = none) (mS : mg "sorted" = none) (mT : mg "tuple" = none) (mL : mg "list" = none) : FnOk P w K mg base CX0 (k + 1) f fd pOrdK (spF K (gOrdK C)) := by
  refine okF F0 scOrdK (fun rs ow r ow' h => ?_) (fun cdv A outer s H E hr rs ow r ow' h => ?_)
  · obtain ⟨kp, ps, n, F, rfl, _⟩ := h
    rfl
  · obtain ⟨kp, ps, n, F, rfl, hk, h1, h7, hF, rfl, rfl⟩ := h
    have hu := room_u hr
    have h0 : 0 ≤ n := by omega
    have hkl : kp < ow.length := (List.getElem?_eq_some_iff.mp hk).1
    refine pbd_cons (psd_forF [4] (rngZ n) D.int () (fun u _ => u) (fun _ => okS C kp n F none none none none none none) (fun _ x => okS C kp n F (some (.d (.int x))) none none none none none) (fun _ => ow) PassesOwn.never rfl
      (pid_eq (pid_range1 mR (padd_cons (pd_var 2) padd_nil) (by omega)) (rngD_Z n)) ⟨rfl, fun i r h => h⟩ rfl (fun l i r hl => pgd_name 4 scOrdK.nd) (fun l x r hlx => ?_)) ?_
    · have hx := mem_rngZ (pre_mem hlx).1
      refine pbd_weak (st1 := okS C kp n F (some (.d (.int x))) none none none none none) (pbd_cons (psd_forF [5] (rngZ n) D.int () (fun u _ => u) (fun _ => okS C kp n F (some (.d (.int x))) none none none none none) (fun _ y => okS C kp n F (some (.d (.int x))) (some (.d (.int y))) none none none none) (fun _ => ow) PassesOwn.never rfl
        (pid_eq (pid_range1 mR (padd_cons (pd_var 2) padd_nil) (by omega)) (rngD_Z n)) ⟨rfl, fun i r h => h⟩ rfl (fun l i r hl => pgd_name 5 scOrdK.nd) (fun l y r hly => ?_)) pbd_nil) rfl (by (intro i r h; rcases i with _ | _ | _ | _ | _ | _ | _ | _ | _ | _ | i <;> first | exact h | cases h))
      have hy := mem_rngZ (pre_mem hly).1
      refine pbd_weak (st1 := okS C kp n F (some (.d (.int x))) (some (.d (.int y))) none none none none) (pbd_cons (psd_forF [6] (rngZ n) D.int () (fun u _ => u) (fun _ => okS C kp n F (some (.d (.int x))) (some (.d (.int y))) none none none none) (fun _ z => okS C kp n F (some (.d (.int x))) (some (.d (.int y))) (some (.d (.int z))) none none none) (fun _ => ow) PassesOwn.never rfl
        (pid_eq (pid_range1 mR (padd_cons (pd_var 2) padd_nil) (by omega)) (rngD_Z n)) ⟨rfl, fun i r h => h⟩ rfl (fun l i r hl => pgd_name 6 scOrdK.nd) (fun l z r hlz => ?_)) pbd_nil) rfl (by (intro i r h; rcases i with _ | _ | _ | _ | _ | _ | _ | _ | _ | _ | i <;> first | exact h | cases h))
      have hz := mem_rngZ (pre_mem hlz).1
      by_cases hd : x ≠ y ∧ y ≠ z ∧ x ≠ z
      · obtain ⟨d1, d2, d3⟩ := hd
        have hm := isort_mem h0 h7 hx hy hz d1 d2 d3
        obtain ⟨a, b, c, e, ha, hab, hbc, hc⟩ := sub3_form h0 h7 hm
        rw [e] at hm
        have hsg := sgA_F (F := F) hm
        have hFb := hF [a, b, c]
        refine pbd_weak (st1 := okS C kp n F (some (.d (.int x))) (some (.d (.int y))) (some (.d (.int z))) (some (.d (.lst ([a, b, c].map D.int)))) (some (.d (.int (F [a, b, c] * parZ [x, y, z])))) none) (pbd_cons (psd_if (bl := true) (ptd_eqB (ptd_bool (pwd_and (ptd_ne (pd_var 4) (pd_var 5)) (fun _ => pwd_and (ptd_ne (pd_var 5) (pd_var 6)) (fun _ => pwd_and1 (ptd_ne (pd_var 4) (pd_var 6)))))) (by rw [iv_eq, iv_eq, iv_eq, decide_eq_false d1, decide_eq_false d2, decide_eq_false d3]; rfl)) (fun _ => ?_) (fun z => nomatch z)) pbd_nil) rfl (by (intro i r h; rcases i with _ | _ | _ | _ | _ | _ | _ | _ | _ | _ | i <;> first | exact h | cases h))
        refine pbd_cons (psd_set 7 scOrdK.nd (pd_eqD (d' := .lst ([a, b, c].map D.int)) (pd_sorted (ns := [x, y, z]) mS (padd_cons (pd_lst (padd_cons (pd_var 4) (padd_cons (pd_var 5) (padd_cons (pd_var 6) padd_nil)))) padd_nil) (by show 3 < 64; decide)) (by rw [e]))) ?_
        refine pbd_cons (psd_set 8 scOrdK.nd (pd_mul (pd_getT (ns := [a, b, c]) hu (pd_var 3) (pd_tup (padd_cons (pd_ixL (pd_var 7) pd_int (show atI ([a, b, c].map D.int) 0 = some (.int a) from rfl)) (padd_cons (pd_ixL (pd_var 7) pd_int (show atI ([a, b, c].map D.int) 1 = some (.int b) from rfl)) (padd_cons (pd_ixL (pd_var 7) pd_int (show atI ([a, b, c].map D.int) 2 = some (.int c) from rfl)) padd_nil)))) (lookI_some (lookI_F hm))) (pd_cg C1 hr (Nat.le_refl _) (padd_cons (pd_lst (padd_cons (pd_var 4) (padd_cons (pd_var 5) (padd_cons (pd_var 6) padd_nil)))) padd_nil) ⟨[x, y, z], rfl, by show 3 ≤ 20; decide, rfl, rfl⟩) (.inl ⟨by omega, by omega⟩))) ?_
        have hlot : LotIn n [x, y, z] := ⟨by simp; omega, fun q hq => by simp at hq; omega, by show 3 < 64; decide⟩
        have hsg2 : sgA n (cns n F) (isort [x, y, z]) = F [a, b, c] := by rw [e, hsg]
        have hlok : LotOk n (cns n F) (isort [x, y, z]) := by rw [e]; exact lotOk_F hm
        have gs : ∀ t : Bool, gSign C [.d (chartD C n (cns n F)), .d (sqD t ([x, y, z].map D.int))] ow (.d (.int (sgA n (cns n F) (isort [x, y, z]) * parZ [x, y, z]))) ow := fun t => ⟨t, n, cns n F, [x, y, z], rfl, hlot, rfl, h1, by omega, hlok, by rw [hsg2]; exact hFb.1, by rw [hsg2]; exact hFb.2, rfl, rfl⟩
        refine pbd_skip (bl := false) (ptd_eqB (ptd_bool (pwd_or (ptd_ne (pd_mt M1 (pd_var 1) T.cl hr (Nat.le_refl _) (padd_cons (pd_lst (padd_cons (pd_var 4) (padd_cons (pd_var 5) (padd_cons (pd_var 6) padd_nil)))) padd_nil) (chF_no n _ ns1' ns2' ns3' ns4') (gs false)) (pd_var 8)) (fun _ => pwd_or1 (ptd_ne (pd_ixI GI hgi hgf hgn bG (hr.mono hkg) (pd_var 1) (pd_tup (padd_cons (pd_var 4) (padd_cons (pd_var 5) (padd_cons (pd_var 6) padd_nil)))) (gs true)) (pd_var 8))))) (by rw [iv_eq, hsg2]; simp)) rfl pbd_nil
      · have hd' : (!decide (x = y) && (!decide (y = z) && !decide (x = z))) = false := by
          by_cases e1 : x = y
          · simp [e1]
          · by_cases e2 : y = z
            · simp [e2]
            · have e3 : x = z := Classical.byContradiction fun e3 => hd ⟨e1, e2, e3⟩
              simp [e3]
        exact pbd_weak (st1 := okS C kp n F (some (.d (.int x))) (some (.d (.int y))) (some (.d (.int z))) none none none) (pbd_skip (bl := false) (ptd_eqB (ptd_bool (pwd_and (ptd_ne (pd_var 4) (pd_var 5)) (fun _ => pwd_and (ptd_ne (pd_var 5) (pd_var 6)) (fun _ => pwd_and1 (ptd_ne (pd_var 4) (pd_var 6)))))) (by rw [iv_eq, iv_eq, iv_eq]; exact hd')) rfl pbd_nil) rfl (by (intro i r h; rcases i with _ | _ | _ | _ | _ | _ | _ | _ | _ | _ | i <;> first | exact h | cases h))
    · obtain ⟨mz, hmz⟩ : ∃ mz, mz = mixZ ps seven := ⟨_, rfl⟩
      have hp := mixZ_perm ps seven
      have hx := nextV_rng (mixZ ps seven).ps (show (0 : Int) < 7 by decide)
      rw [← hmz] at hp hx
      have ecut : cutD (mz.mixed.map D.int) none (some (nextV mz.ps 7)) = (mz.mixed.take (nextV mz.ps 7).toNat).map D.int := by
        conv => lhs; rw [show nextV mz.ps 7 = (((nextV mz.ps 7).toNat : Nat) : Int) by omega]
        rw [cut_take, List.map_take]
      have hnd : (mz.mixed.take (nextV mz.ps 7).toNat).Nodup := (hp.nodup_iff.mpr (by decide)).sublist (List.take_sublist _ _)
      have hln : (mz.mixed.take (nextV mz.ps 7).toNat).length ≤ 20 := by
        rw [List.length_take, hp.length_eq]
        have : seven.length = 7 := rfl
        omega
      rw [← hmz]
      refine pbd_cons (psd_set 9 scOrdK.nd (pd_ow (owB := ow.set kp (.l (mz.ps.dropLast.map D.int))) (pd_eqD (d' := .lst ((mz.mixed.take (nextV mz.ps 7).toNat).map D.int)) (pd_slLo (pd_cg C2 hr (Nat.le_refl _) (pad_cons (pd_var 0) (padd_cons (pd_lstRg2 seven rfl mL mR (pd_neg pd_int) pd_int ⟨by decide, by decide, by decide, by decide, by decide⟩ seven_rg) padd_nil)) ⟨kp, seven, ps, rfl, hk, by decide, rfl, rfl⟩) (pd_cg C3 hr (Nat.le_refl _) (pad_cons (pd_var 0) (padd_cons pd_int padd_nil)) ⟨kp, 7, (mixZ ps seven).ps, rfl, List.getElem?_set_self hkl, by decide, rfl, rfl⟩)) (by rw [← hmz, ecut])) (by rw [List.set_set, ← hmz]))) ?_
      exact pbd_last (psd_ret (pd_eqB (pd_eq (pd_cg C4 hr (Nat.le_refl _) (padd_cons (pd_tupleL mT (padd_cons (pd_var 9) padd_nil)) padd_nil) ⟨true, mz.mixed.take (nextV mz.ps 7).toNat, rfl, hnd, hln, rfl, rfl⟩) (pd_cg C1 hr (Nat.le_refl _) (padd_cons (pd_var 9) padd_nil) ⟨_, rfl, hln, rfl, rfl⟩)) (by simp)))
end
end Bl
set_option Elab.async false
set_option linter.all false
set_option maxRecDepth 100000
set_option maxHeartbeats 16000000
namespace Bl
open PySem PySem.Spec PyProof.Rows L2
section
variable {X : Cx} {e a b : Expr} {st : Sta} {ow ow1 ow2 : List OB} {pos : Pos} {ns ms : List Int}
theorem pd_freezeT {gs : List (List Key × D)} (h : PD X st ow e (.own ow1.length) (ow1 ++ [.t gs])) (hl : ow.length = ow1.length := by rfl) (hb : KeepG ow ow1 := by first | exact ⟨fun _ h => h, fun _ h => h⟩ | (refine ⟨?_, ?_⟩ <;> (intro gs h; simp at h ⊢; assumption))) : PD X st ow e (.d (.dT gs)) ow1 :=
  PE.imp h fun σ H Q ⟨S, sl, o, k⟩ => ⟨S, sl, o, fun S1 v H1 f1 o1 d1 =>
    let z := owns_dropT f1 o o1 hl hb d1
    k S v H1 z.1 z.2.1 (.d z.2.2)⟩
theorem rd_neLL {K : PySem.W.Frag} : RD K (rNeD K) (.lst (ns.map D.int)) (.lst (ms.map D.int)) (.bl (!decide (ns = ms))) := fun S H ow vx vy Q o dx dy q => by
  obtain ⟨a, xs, rfl, h1, h2⟩ := dx.of_lst
  obtain ⟨b, ys, rfl, h3, h4⟩ := dy.of_lst
  have e1 := Dens.ints h2
  have e2 := Dens.ints h4
  subst e1 e2
  refine ⟨_, _, .lst h1.sq (dp_ints ns), .lst h3.sq (dp_ints ms), shaped_l ns, shaped_l ms, ?_⟩
  have e3 : PyData.eqv (.list (ns.map PyData.int)) (.list (ms.map PyData.int)) = decide (ns = ms) := eqv_ints ns ms
  rw [e3]
  exact q _ _ (Evl.Ex.refl H) (.bl _)
theorem ptd_neLL (hu : X.A.units + 64 < cLine) (ha : PD X st ow a (.d (.lst (ns.map D.int))) ow1) (hb : PD X st ow1 b (.d (.lst (ms.map D.int))) ow2) : PTD X st ow (.Compare a [.NotEq] [b] pos) (!decide (ns = ms)) ow2 := ptd_cmp (op_neD hu) (nomark _) rd_neLL ha hb
end
/-! ### lots and their parts -/
theorem fours_FN {n : Int} (h0 : 0 ≤ n) (h : n ≤ 7) (F : List Int → Int) : ∀ q ∈ sub4 (rngZ n), FourOk n (cns n F) q := fun q hq => (signs4_F h0 h hq).2
theorem lcRun_sub {α τ : Type} (pp : τ → α → Bool) (sf : τ → α → τ) : ∀ (l : List α) (p : τ × List α), ∃ r, (l.foldl (lcStep pp sf) p).2 = p.2 ++ r ∧ r.Sublist l
  | [], p => ⟨[], by simp, .slnil⟩
  | x :: l, p => by
    obtain ⟨r, h1, h2⟩ := lcRun_sub pp sf l (lcStep pp sf p x)
    rw [List.foldl_cons, h1]
    unfold lcStep
    dsimp only
    split
    · exact ⟨x :: r, by rw [List.append_assoc]; rfl, h2.cons₂ x⟩
    · exact ⟨r, rfl, h2.cons x⟩
theorem lotZ_A {n : Int} (h0 : 0 ≤ n) (h7 : n ≤ 7) (ps : List Int) : LotA n (lotZ n ps).2 := by
  obtain ⟨r, h1, h2⟩ := lcRun_sub (fun ps (_ : Int) => decide (nextV ps 2 = 1)) (fun ps _ => ps.dropLast) (rngZ n) (ps, [])
  have e : (lotZ n ps).2 = r := h1
  rw [e]
  refine ⟨(rngZ_pw n).sublist h2, fun x hx => mem_rngZ (h2.subset hx), ?_⟩
  have := h2.length_le
  rw [rngZ_len] at this
  omega
theorem asc_srtN {l m : List Int} (hp : m.Perm l) (hs : m.Pairwise (· < ·)) : isort l = m := (isort_eq hp (hs.imp fun h => by omega)).symm
theorem lot_perm {n : Int} {lot qs : List Int} (hl : LotA n lot) (hp : qs.Perm lot) : LotIn n qs ∧ isort qs = lot ∧ qs.length = lot.length :=
  ⟨⟨hp.nodup_iff.mpr (hl.pw.imp fun h => by omega), fun q hq => hl.rg q (hp.mem_iff.mp hq), by have := hl.ln; rw [hp.length_eq]; omega⟩, asc_srtN hp.symm hl.pw, hp.length_eq⟩
theorem sub3_lot (lot : List Int) : sub3 lot = (sub3 (rngZ (lot.length : Int))).map (List.map (gI lot)) := by
  conv => lhs; rw [← rng_map_gI lot]
  rw [sub3_map]
theorem sub3_inlot {n : Int} {lot : List Int} (h0 : 0 ≤ n) (h7 : n ≤ 7) (hl : LotA n lot) {q : List Int} (hq : q ∈ sub3 lot) : q ∈ sub3 (rngZ n) := by
  rw [sub3_lot] at hq
  obtain ⟨p, hp, rfl⟩ := List.mem_map.mp hq
  have hl7 := hl.ln
  obtain ⟨i, j, k, rfl, hi, hij, hjk, hk⟩ := sub3_form (by omega) (by omega) hp
  exact three_lot h0 h7 hl hi hij hjk hk
theorem FP_sgn {F : List Int → Int} {lot : List Int} (h : SgnF F) : SgnF (FP F lot) := fun q => h _
theorem part_cns {n : Int} {F : List Int → Int} {lot : List Int} (h0 : 0 ≤ n) (h7 : n ≤ 7) (hl : LotA n lot) : (sub3 lot).map (sgA n (cns n F)) = cns (lot.length : Int) (FP F lot) := by
  have e : (sub3 lot).map (sgA n (cns n F)) = (sub3 lot).map F := List.map_congr_left fun q hq => sgA_F (sub3_inlot h0 h7 hl hq)
  rw [e, sub3_lot, List.map_map]
  rfl
theorem part_spec {C : Addr} {n : Int} {F : List Int → Int} {lot qs : List Int} (ow : List OB) (t : Bool) (h1 : 1 ≤ n) (h7 : n ≤ 7) (hF : SgnF F) (hl : LotA n lot) (hp : qs.Perm lot) (hne : lot ≠ []) (no : NoIow ow) :
    gPart C [.d (chartD C n (cns n F)), .d (sqD t (qs.map D.int))] ow (.d (chartD C (lot.length : Int) (cns (lot.length : Int) (FP F lot)))) ow := by
  obtain ⟨h2, h3, h4⟩ := lot_perm hl hp
  refine ⟨t, n, cns n F, qs, rfl, h2, h1, by omega, fun z => hne (List.length_eq_zero_iff.mp (by rw [← h4, z]; rfl)), by have := hl.ln; omega, ?_, ?_, no, ?_, rfl⟩
  · rw [h3]
    intro q hq
    have hm := sub3_inlot (by omega) h7 hl hq
    rw [sgA_F hm]
    exact ⟨lotOk_F hm, (hF q).1, (hF q).2⟩
  · rw [h3, sub3_lot, List.length_map, h4]
  · rw [h3, part_cns (by omega) h7 hl, h4]
theorem FP_two {m : Int} {F : List Int → Int} {lot ch : List Int} (hm : m = (lot.length : Int)) (hl : LotA m ch) : cns (ch.length : Int) (FP (FP F lot) ch) = cns ((ch.map (gI lot)).length : Int) (FP F (ch.map (gI lot))) := by
  have hl7 := hl.ln
  rw [List.length_map]
  unfold cns FP
  refine List.map_congr_left fun q hq => ?_
  obtain ⟨i, j, k, rfl, hi, hij, hjk, hk⟩ := sub3_form (by omega) (by omega) hq
  show F [gI lot (gI ch i), gI lot (gI ch j), gI lot (gI ch k)] = F [gI (ch.map (gI lot)) i, gI (ch.map (gI lot)) j, gI (ch.map (gI lot)) k]
  rw [gI_map _ _ _ hi (by omega), gI_map _ _ _ (by omega) (by omega), gI_map _ _ _ (by omega) (by omega)]
theorem lot_map {n m : Int} {lot ch : List Int} (hl : LotA n lot) (hm : m = (lot.length : Int)) (hc : LotA m ch) : LotA n (ch.map (gI lot)) := by
  subst hm
  refine ⟨?_, fun x hx => ?_, by rw [List.length_map]; exact hc.ln⟩
  · rw [List.pairwise_map]
    refine List.Pairwise.imp_of_mem (fun {a b} ha hb h => ?_) hc.pw
    exact gI_lt hl.pw (hc.rg a ha).1 h (hc.rg b hb).2
  · obtain ⟨y, hy, rfl⟩ := List.mem_map.mp hx
    exact hl.rg _ (gI_mem (hc.rg y hy).1 (hc.rg y hy).2)
theorem noIow_set {ow : List OB} {k : Nat} {l : List Int} (h : NoIow ow) : NoIow (ow.set k (.l (l.map D.int))) := fun b hb => by
  rcases List.mem_or_eq_of_mem_set hb with hb | hb
  · exact h b hb
  · rw [hb]; exact noIs_ints l
def lotKps (n : Int) (ps : List Int) : List Int := if (lotZ n ps).2 = [] then (lotZ n ps).1 else (lotZ ((lotZ n ps).2.length : Int) (mixZ (lotZ n ps).1 (lotZ n ps).2).ps).1
section
variable {P : Program} {w : World} {K : PySem.W.Frag} {mg : Str → Option Value} {base : Heap} {f fE fG : Addr} {fd fdE fdG : FuncData} {k ke : Nat} {C : Addr} {psE : List Str}
def gFaultK (C : Addr) : GG := fun rs ow r ow' => ∃ (n : Int) (F : List Int → Int) (wd : Int), rs = [.d (chartD C n (cns n F)), .d (.int wd), .d (.int n)] ∧ 1 ≤ n ∧ n ≤ 7 ∧ 0 ≤ wd ∧ wd ≤ 5 ∧ r = .d (.bl true) ∧ ow' = ow
abbrev sLotK : Stmt := topS 55
abbrev nLotK : List Str := ["_law_pool_here", "_law_chart", "_law_size_here", "_law_table_here", "_law_lot_here", "_law_handed", "_law_copy", "_law_told", "_law_small", "_law_chosen", "_law_at", "_law_again"]
abbrev pLotK : List Str := ["_law_pool_here", "_law_chart", "_law_size_here", "_law_table_here"]
theorem scLotK : FnScope nLotK pLotK (defScope sLotK) := ⟨rfl, rfl, rfl, by decide +kernel, rfl, by decide +kernel, by decide +kernel⟩
def gLotK (C : Addr) : GG := fun rs ow r ow' => ∃ (kp : Nat) (ps : List Int) (n : Int) (F : List Int → Int), rs = [.own kp, .d (chartD C n (cns n F)), .d (.int n), .d (tabD' n F)] ∧ ow[kp]? = some (.l (ps.map D.int)) ∧ 1 ≤ n ∧ n ≤ 7 ∧ SgnF F ∧ NoIow ow ∧ r = .d (.bl true) ∧ ow' = ow.set kp (.l ((lotKps n ps).map D.int))
theorem np1 : ¬ (("part" : Str) = "_table") := by decide +kernel
theorem np2 : ¬ (("part" : Str) = "lines") := by decide +kernel
theorem np3 : ¬ (("part" : Str) = "signs") := by decide +kernel
theorem np4 : ¬ (("part" : Str) = "size") := by decide +kernel
theorem ok_lotK (F0 : Fun K "_law_lot_kept" "_law_lot_kept" sLotK f fd) (T : ChTxt K C) (M1 : Mt P w K mg base C "part" k ["self", "lot"] (gPart C)) {kq : Nat} (M2 : Pt P w K mg base C "sound" kq ["self"] (gSound C)) (hkq : kq + 1 ≤ k) (EQ : FnOk P w K mg base CX0 ke fE fdE psE (spF K (gEqC C))) (hke : ke ≤ k) (heq : PySem.W.findIn K (.ref C) "__eq__" = some (some (.ref fE))) (hef : PySem.W.isFn K (.ref fE) = true) (bE : Binds K fdE psE [])
    (C1 : Fg P w K mg base "_law_lot" k ["_law_pool_here", "_law_size_here"] gLotL) (C2 : Fg P w K mg base "_law_mixed" k ["_law_pool_here", "_law_lot_here"] gMixed) (C3 : Fg P w K mg base "_law_part" k ["_law_table_here", "_law_lot_here"] gPartL) (C4 : Fg P w K mg base "_law_signs" k ["_law_size_here", "_law_table_here"] gSigns) (C5 : Fg P w K mg base "_law_bad_four" k ["_law_size_here", "_law_table_here"] gBad4) (C6 : Fg P w K mg base "_law_fault_kept" k ["_law_chart", "_law_word", "_law_size_here"] (gFaultK C))
    (mN : mg "len" = none) (mT : mg "tuple" = none) (mL : mg "list" = none) : FnOk P w K mg base CX0 (k + 1) f fd pLotK (spF K (gLotK C)) := by
  refine okF F0 scLotK (fun rs ow r ow' h => ?_) (fun cdv A outer s H E hr rs ow r ow' h => ?_)
  · obtain ⟨kp, ps, n, F, rfl, _⟩ := h
    rfl
  · obtain ⟨kp, ps, n, F, rfl, hk, h1, h7, hF, no, rfl, rfl⟩ := h
    have hu := room_u hr
    have hu64 := room_u64 hr
    have hkl : kp < ow.length := (List.getElem?_eq_some_iff.mp hk).1
    have hA := lotZ_A (n := n) (by omega) h7 ps
    unfold lotKps
    obtain ⟨lot, hlot⟩ : ∃ lot, lot = (lotZ n ps).2 := ⟨_, rfl⟩
    obtain ⟨p1, hp1⟩ : ∃ p1, p1 = (lotZ n ps).1 := ⟨_, rfl⟩
    refine pbd_cons (psd_set 4 scLotK.nd (pd_cg C1 hr (Nat.le_refl _) (pad_cons (pd_var 0) (padd_cons (pd_var 2) padd_nil)) ⟨kp, n, ps, rfl, hk, by omega, by omega, rfl, rfl⟩)) ?_
    rw [← hlot, ← hp1]
    rw [← hlot] at hA
    have hl7 := hA.ln
    have elen : ∀ {X : Cx} {st : Sta} {owx : List OB} {e : Expr} {p pos : Pos} {l : List Int}, X.mg "len" = none → PD X st owx e (.d (.lst (l.map D.int))) owx → (Gl X "len") → starEach [e] X.env = [(false, eval e X.env)] → PD X st owx (.Call (.Name "len" p) [e] [] pos) (.d (.int (l.length : Int))) owx := fun hmn h hg he =>
      pd_eqD (pd_lenL hmn (padd_cons h padd_nil he) hg he) (by rw [List.length_map])
    by_cases hz : lot = []
    · rw [if_pos hz]
      subst hz
      exact pbd_take (bl := true) (ptd_eqB (ptd_eq (elen mN (pd_var 4) rfl rfl) pd_int) (by simp)) rfl (pbd_last (psd_ret (pd_cg C6 hr (Nat.le_refl _) (padd_cons (pd_var 1) (padd_cons pd_int (padd_cons (pd_var 2) padd_nil))) ⟨n, F, 0, rfl, h1, h7, by omega, by omega, rfl, rfl⟩)))
    · rw [if_neg hz]
      have hpos : 0 < lot.length := List.length_pos_iff.mpr hz
      refine pbd_skip (bl := false) (ptd_eqB (ptd_eq (elen mN (pd_var 4) rfl rfl) pd_int) (by rw [iv_eq]; exact decide_eq_false (by omega))) rfl ?_
      have hmp := mixZ_perm p1 lot
      obtain ⟨mz, hmz⟩ : ∃ mz, mz = mixZ p1 lot := ⟨_, rfl⟩
      refine pbd_cons (psd_set 5 scLotK.nd (pd_ow (owB := ow.set kp (.l (mz.ps.map D.int))) (pd_cg C2 hr (Nat.le_refl _) (pad_cons (pd_var 0) (padd_cons (pd_var 4) padd_nil)) ⟨kp, lot, p1, rfl, List.getElem?_set_self hkl, by omega, rfl, rfl⟩) (by rw [List.set_set, hmz]))) ?_
      rw [← hmz] at hmp ⊢
      have no1 : NoIow (ow.set kp (.l (mz.ps.map D.int))) := noIow_set no
      refine pbd_cons (psd_set 6 scLotK.nd (pd_listL mL (padd_cons (pd_var 5) padd_nil))) ?_
      refine pbd_cons (psd_set 7 scLotK.nd (pd_mt M1 (pd_var 1) T.cl hr (Nat.le_refl _) (padd_cons (pd_var 5) padd_nil) (chF_no n _ np1 np2 np3 np4) (part_spec (t := false) _ h1 h7 hF hA hmp hz no1))) ?_
      obtain ⟨m, hm⟩ : ∃ m, m = (lot.length : Int) := ⟨_, rfl⟩
      have hm1 : 1 ≤ m := by omega
      have hm7 : m ≤ 7 := by omega
      refine pbd_cons (psd_set 8 scLotK.nd (pd_freezeT (pd_cg C3 hr (Nat.le_refl _) (padd_cons (pd_var 3) (padd_cons (pd_var 4) padd_nil)) ⟨n, F, lot, rfl, by omega, h7, hA, rfl, rfl⟩))) ?_
      rw [← hm]
      have sG : SgnF (FP F lot) := FP_sgn hF
      obtain ⟨G, hG⟩ : ∃ G, G = FP F lot := ⟨_, rfl⟩
      rw [← hG] at sG ⊢
      have elot : ∀ {X : Cx} {st : Sta} {owx : List OB} {e : Expr} {p pos : Pos}, X.mg "len" = none → PD X st owx e (.d (.lst (lot.map D.int))) owx → (Gl X "len") → starEach [e] X.env = [(false, eval e X.env)] → PD X st owx (.Call (.Name "len" p) [e] [] pos) (.d (.int m)) owx := fun hmn h hg he =>
        pd_eqD (pd_lenL hmn (padd_cons h padd_nil he) hg he) (by rw [List.length_map, hm])
      refine pbd_skip (bl := false) (ptd_eqB (ptd_bool (pwd_or (ptd_neLL (ns := mz.mixed) (ms := mz.mixed) hu64 (pd_var 5) (pd_var 6)) (fun _ => pwd_or (ptd_ne (pd_fld (pd_var 7) T.cl T.size (chF_size m _)) (elot mN (pd_var 4) rfl rfl)) (fun _ => pwd_or1 (ptd_neTT (ns := cns m G) (ms := cns m G) hu64 (pd_fld (pd_var 7) T.cl T.signs (chF_signs m _)) (pd_tupleL mT (padd_cons (pd_cg C4 hr (Nat.le_refl _) (padd_cons (elot mN (pd_var 4) rfl rfl) (padd_cons (pd_var 8) padd_nil)) ⟨m, G, rfl, by omega, hm7, rfl, rfl⟩) padd_nil)) rfl rfl))))) (by simp)) rfl ?_
      refine pbd_skip (bl := false) (ptd_eqB (ptd_ne (pd_pt M2 (pd_var 7) T.cl hr hkq ⟨m, cns m G, rfl, by omega, fours_FN (by omega) hm7 G, rfl, rfl⟩) (pd_isN (pd_cg C5 hr (Nat.le_refl _) (padd_cons (elot mN (pd_var 4) rfl rfl) (padd_cons (pd_var 8) padd_nil)) ⟨m, G, rfl, by omega, hm7, rfl, rfl⟩) pd_non)) (by rw [badW_eq (by omega) hm7 sG]; simp)) rfl ?_
      have hA2 := lotZ_A (n := m) (by omega) hm7 mz.ps
      refine pbd_cons (psd_set 9 scLotK.nd (pd_ow (owB := ow.set kp (.l ((lotZ m mz.ps).1.map D.int))) (pd_cg C1 hr (Nat.le_refl _) (pad_cons (pd_var 0) (padd_cons (elot mN (pd_var 4) rfl rfl) padd_nil)) ⟨kp, m, mz.ps, rfl, List.getElem?_set_self hkl, by omega, by omega, rfl, rfl⟩) (by rw [List.set_set]))) ?_
      obtain ⟨ch, hch⟩ : ∃ ch, ch = (lotZ m mz.ps).2 := ⟨_, rfl⟩
      rw [← hch] at hA2 ⊢
      have hc7 := hA2.ln
      have no2 : NoIow (ow.set kp (.l ((lotZ m mz.ps).1.map D.int))) := noIow_set no
      by_cases hcz : ch = []
      · subst hcz
        exact pbd_take (bl := true) (ptd_eqB (ptd_eq (elen mN (pd_var 9) rfl rfl) pd_int) (by simp)) rfl (pbd_last (psd_ret pd_bl))
      · have hcpos : 0 < ch.length := List.length_pos_iff.mpr hcz
        refine pbd_skip (bl := false) (ptd_eqB (ptd_eq (elen mN (pd_var 9) rfl rfl) pd_int) (by rw [iv_eq]; exact decide_eq_false (by omega))) rfl ?_
        have hLM := lot_map hA hm hA2
        have e2 := FP_two (F := F) hm hA2
        rw [← hG] at e2
        have elm : ((ch.map (gI lot)).length : Int) = (ch.length : Int) := by rw [List.length_map]
        refine pbd_cons (psd_set 11 scLotK.nd (pd_eqD (pd_mt M1 (pd_var 1) T.cl hr (Nat.le_refl _) (padd_cons (pd_eqD (d' := .lst ((ch.map (gI lot)).map D.int)) (pd_lc (own := [("_law_at", 10)]) ch D.int (fun x => [some (.own kp), some (.d (chartD C n (cns n F))), some (.d (.int n)), some (.d (tabD' n F)), some (.d (.lst (lot.map D.int))), some (.d (.lst (mz.mixed.map D.int))), some (.d (.lst (mz.mixed.map D.int))), some (.d (chartD C m (cns m G))), some (.d (tabD' m G)), some (.d (.lst (ch.map D.int))), some (.d (.int x)), none]) (fun _ => true) (fun x => .int (gI lot x))
          rfl scLotK.nd (pid_list (pd_var 9)) (blkOk_by (N := nLotK) (sc := defScope sLotK) (by decide +kernel)) (by omega) (fun x hx _ H C' cl fp => pgd_name 10 scLotK.nd) (fun x hx l _ H C' cl fp => ptsd_nil) (fun x hx _ l _ H C' cl fp => pd_ixL (pd_var 4) (pd_var 10) (at_map (gI_ok (hA2.rg x hx).1 (by have := (hA2.rg x hx).2; omega))))) (by rw [List.filter_eq_self.mpr (fun _ _ => rfl), List.map_map]; rfl)) padd_nil) (chF_no n _ np1 np2 np3 np4) (part_spec (t := false) _ h1 h7 hF hLM (.refl _) (fun z => hcz (List.map_eq_nil_iff.mp z)) no2)) (d' := chartD C (ch.length : Int) (cns (ch.length : Int) (FP G ch))) (by rw [← e2, elm]))) ?_
        refine pbd_last (psd_ret (pd_eqB (pd_and (pd_eqI EQ heq hef bE (hr.mono hke) (pd_mt M1 (pd_var 7) T.cl hr (Nat.le_refl _) (padd_cons (pd_var 9) padd_nil) (chF_no m _ np1 np2 np3 np4) (part_spec (t := false) _ hm1 hm7 sG hA2 (.refl _) hcz no2)) (pd_var 11) ⟨_, _, _, _, rfl, rfl, rfl⟩) (fun _ => pd_one (pd_cmp (op_eqD hu64) (nomark _) (rd_eqTT (ns := cns (ch.length : Int) (FP G ch)) (ms := cns (ch.length : Int) (FP G ch)) rfl rfl) (pd_fld (pd_var 11) T.cl T.signs (chF_signs _ _)) (pd_tupleL mT (padd_cons (pd_cg C4 hr (Nat.le_refl _) (padd_cons (elen mN (pd_var 9) rfl rfl) (padd_cons (pd_freezeT (pd_cg C3 hr (Nat.le_refl _) (padd_cons (pd_var 8) (padd_cons (pd_var 9) padd_nil)) ⟨m, G, ch, rfl, by omega, hm7, hA2, rfl, rfl⟩)) padd_nil)) ⟨(ch.length : Int), FP G ch, rfl, by omega, by omega, rfl, rfl⟩) padd_nil))))) (by simp)))
end
end Bl
set_option Elab.async false
set_option linter.all false
set_option maxRecDepth 100000
set_option maxHeartbeats 4000000
namespace Bl
open PySem PySem.Spec PyProof.Rows L2
/-! ### lists of mutable things -/
theorem own_r {K : PySem.W.Frag} {S : List Addr} {H : Hp} {ow : List OB} {v : V} {k : Nat} {gs : List (Int × Nat)} (o : Owns K S H ow) (h : DenR K S H v (.own k)) (hk : ow[k]? = some (.r gs)) : ∃ a kvs, v = .ref a ∧ S[k]? = some a ∧ H a = some (.lst (kvs.map (·.2))) ∧ Paired (GR S) kvs gs := by
  cases h with
  | own h =>
    obtain ⟨a, z, y⟩ := o.ob k _ hk
    rw [h] at z
    cases z
    cases y with
    | r y r => exact ⟨_, _, rfl, h, y, r⟩
theorem gr_at {S : List Addr} : ∀ {kvs : List (Key × V)} {gs : List (Int × Nat)} {j : Nat} {g : Int × Nat}, Paired (GR S) kvs gs → gs[j]? = some g → ∃ b, (kvs.map (·.2))[j]? = some (.ref b) ∧ S[g.2]? = some b
  | _, _, _, _, .nil, h => by simp at h
  | _, _, 0, g, .cons hr t, h => by
    simp at h
    subst h
    obtain ⟨_, b, h2, h3⟩ := hr
    exact ⟨b, by simp [h2], h3⟩
  | _, _, j + 1, g, .cons hr t, h => by
    have h' := gr_at (j := j) (g := g) t (by simpa using h)
    simpa using h'
theorem atI_nat {α : Type} {xs : List α} {j : Nat} {v : α} (h : xs[j]? = some v) : atI xs (j : Int) = some v := by
  have hj := (List.getElem?_eq_some_iff.mp h).1
  unfold atI ixN
  rw [if_pos (by omega), if_pos (by omega)]
  simpa using h
section
variable {X : Cx} {a b e o : Expr} {es : List Expr} {st : Sta} {ow ow1 ow2 : List OB} {p pos apos cpos : Pos} {gs : List (Int × Nat)} {k j m : Nat} {z : Int} {rs rs' : List R} {ps : List Str} {g : GG} {xn : Str} {d : D} {ns : List Int}
theorem pd_newR : PD X st ow (.List [] pos) (.own ow.length) (ow ++ [.r []]) :=
  (pe_lst (X := X) (padd_nil (st := st) (ow := ow))).imp fun σ H Q ⟨S, sl, o, k⟩ => ⟨S, sl, o, fun S1 vs H1 f1 o1 d1 => by
    have d2 := densOf (ds := []) d1
    cases d2
    refine ⟨by decide, fun p hp => ?_⟩
    obtain ⟨g1, g2, g3⟩ := own_newB (b := .r []) (u := .lst []) o1 hp (.r (kvs := []) upd_same .nil)
    exact k _ _ _ (f1.trans o1 g1) g2 g3⟩
theorem pd_appendR (ho : PD X st ow o (.own k) ow1) (ha : PD X st ow1 e (.own j) ow2) (hk1 : ∃ l1, ow1[k]? = some (.r l1)) (hk : ow2[k]? = some (.r gs)) (hz : gs.length < 100000) (h1 : attributeBase o "append" X.env (eval o X.env) = eval o X.env := by rfl)
    (h2 : ((backTo cpos (starEach [e] X.env)).all (fun x => !x.1) && (backToKw cpos (keywordEach [] X.env)).all (fun x => x.1.isSome) && decide ([e].length + ([] : List Keyword).length + (if ([] : List Keyword).isEmpty then 0 else 1) < 30)) = true := by rfl)
    (h3 : (apos.endLine == cpos.line) = true := by rfl) (h4 : starEach [e] X.env = (false, eval e X.env) :: starEach [] X.env := by rfl) (h5 : (backTo cpos (starEach [] X.env)).any (·.1) = false := by rfl) : PD X st ow (.Call (.Attribute o "append" apos) [e] [] cpos) (.d .non) (ow2.set k (.r (gs ++ [(0, j)]))) :=
  (pe_bm PySem.F.plainAttrs_list PySem.F.slot_list_append PySem.F.type_list_append mt_append ho (pa_cons ha pa_nil h4) h1 h2 h3 h4 h5).imp fun σ H Q ⟨S, sl, o, q⟩ => ⟨S, sl, o, fun S1 v H1 f1 o1 d1 => by
    obtain ⟨l1, hl1⟩ := hk1
    obtain ⟨a, kvs, rfl, g1, g2, g3⟩ := own_r o1 d1 hl1
    refine ⟨own_tyL g2, S1, f1.slots sl, o1, fun S2 w H2 f2 o2 d2 => ?_⟩
    obtain ⟨a', kvs', e', g1', g2', g3'⟩ := own_r o2 (f2.denR d1) hk
    cases e'
    cases d2 with
    | own d2 =>
      obtain ⟨u1, u2⟩ := own_putB (b' := .r (gs ++ [(0, j)])) (u := .lst (kvs'.map (·.2) ++ [.ref _])) o2 g1' fun ex => by
        refine .r (kvs := kvs' ++ [(Sum.inl 0, .ref _)]) ?_ (Paired.snoc g3' ⟨rfl, _, rfl, d2⟩)
        rw [List.map_append]
        exact upd_same
      exact ⟨a, _, .ref _, rfl, rfl, g2', by rw [List.length_map, paired_len' g3']; exact Evl.sz_lt hz, q S2 _ _ (f1.trans o1 (f2.trans o2 (Fwd.upd u1))) u2 (.d .non)⟩⟩
theorem pd_ixR (ha : PD X st ow a (.own k) ow1) (hb : PD X st ow1 b (.d (.int (m : Int))) ow2) (hk : ow2[k]? = some (.r gs)) (hi : gs[m]? = some (z, j)) (hs : PlainIx b := by exact fun _ _ => rfl) : PD X st ow (.Subscript a b pos) (.own j) ow2 :=
  (pe_ix ix_list ha hb hs).imp fun σ H Q ⟨S, sl, o, q⟩ => ⟨S, sl, o, fun S1 v H1 f1 o1 d1 => ⟨S1, f1.slots sl, o1, fun S2 w H2 f2 o2 d2 => by
    obtain ⟨a, kvs, rfl, g1, g2, g3⟩ := own_r o2 (f2.denR d1) hk
    obtain ⟨b', h3, h4⟩ := gr_at g3 hi
    cases d2 with
    | d d2 => exact ⟨a, _, (m : Int), .ref b', rfl, d2.of_int, .inl (.inl g2), atI_nat h3, q S2 (.ref b') H2 (f1.trans o1 f2) o2 (.own h4)⟩⟩⟩
/-- len of a mutable dict -/
theorem pd_lenOT {ts : List (List Key × D)} (hm : X.mg "len" = none) (ha : PD X st ow e (.own k) ow1) (hk : ow1[k]? = some (.t ts)) (hg : Gl X "len" := by rfl) (he : starEach [e] X.env = (false, eval e X.env) :: starEach [] X.env := by rfl) : PD X st ow (.Call (.Name "len" p) [e] [] pos) (.d (.int (ts.length : Int))) ow1 :=
  (pe_callB call_len_dT hg hm PySem.boot_len (pa_cons ha pa_nil he) (by decide) (by decide) he rfl).imp fun σ H Q ⟨S, sl, o, q⟩ => ⟨S, sl, o, fun S1 vs H1 f1 o1 d1 => by
    obtain ⟨a, kvs, rfl, g1, g2, g3⟩ := own_t o1 d1 hk
    refine ⟨a, kvs, rfl, g2, ?_⟩
    rw [kds_length g3]
    exact q S1 _ _ f1 o1 (.d (.int _))⟩
/-! ### a call that reads mutable dicts as data -/
inductive Brw (ow : List OB) : List R → List R → Prop where
  | nil : Brw ow [] []
  | d {x : D} {rs rs' : List R} (h : Brw ow rs rs') : Brw ow (.d x :: rs) (.d x :: rs')
  | t {k : Nat} {gs : List (List Key × D)} {rs rs' : List R} (hk : ow[k]? = some (.t gs)) (h : Brw ow rs rs') : Brw ow (.own k :: rs) (.d (.dT gs) :: rs')
theorem den_no {K : PySem.W.Frag} {S : List Addr} {H : Hp} {g : G} (h : DenG K S H g) : DenG K [] H g := DenG.less (S' := []) (fun a z => by cases z) h
theorem brw {K : PySem.W.Frag} {S : List Addr} {H : Hp} {ow : List OB} (o : Owns K S H ow) : ∀ {vs : List V} {rs rs' : List R}, DenRs K S H vs rs → Brw ow rs rs' → DenRs K [] H vs rs'
  | _, _, _, .nil, .nil => .nil
  | _, _, _, .cons h t, .d b => by
    cases h with
    | d h => exact .cons (.d (den_no h)) (brw o t b)
  | _, _, _, .cons h t, .t hk b => by
    obtain ⟨a, kvs, rfl, g1, g2, g3⟩ := own_t o h hk
    exact .cons (.d (.dT (fun z => nomatch z) g2 (den_no g3))) (brw o t b)
theorem owns_nil (K : PySem.W.Frag) (H : Hp) : Owns K [] H [] := ⟨rfl, .nil, fun k b h => by simp at h⟩
inductive FlatD : D → Prop where
  | non : FlatD .non
  | bl (b : Bool) : FlatD (.bl b)
  | int (i : Int) : FlatD (.int i)
  | tup (ns : List Int) : FlatD (.tup (ns.map D.int))
theorem den_flat {K : PySem.W.Frag} {S : List Addr} {H H' : Hp} {ow : List OB} {v : V} {d : D} (o : Owns K S H ow) (ex : Evl.Ex H H') (f : FlatD d) (h : Den K [] H' v d) : Den K S H' v d := by
  cases f with
  | non => cases h; exact .non
  | bl b => cases h; exact .bl b
  | int i => cases h; exact .int i
  | tup ns =>
    cases h with
    | @tup a xs _ h r =>
      have e := Dens.ints r
      subst e
      refine .tup ⟨fun hm => ?_, h.2⟩ (Dens.of_ints ns)
      obtain ⟨k, hk, e⟩ := List.getElem_of_mem hm
      have hk2 : k < ow.length := by rw [← o.len]; exact hk
      obtain ⟨bb, hbb⟩ : ∃ bb, ow[k]? = some bb := ⟨_, List.getElem?_eq_getElem hk2⟩
      obtain ⟨a', z, y⟩ := (o.ex ex).ob k bb hbb
      rw [List.getElem?_eq_getElem hk, e] at z
      cases z
      have h2 := h.2
      cases y with
      | l y _ => rw [y] at h2; cases h2
      | t y _ => rw [y] at h2; cases h2
      | g y _ => rw [y] at h2; cases h2
      | r y _ => rw [y] at h2; cases h2
theorem ex_of {S' : List Addr} {H H' : Hp} (f : Fwd [] H S' H') : Evl.Ex H H' := fun a u h => f.ex a u (fun z => nomatch z) h
theorem pd_cgW (F : Fg X.prog X.w X.K X.mg X.base xn k ps g) (hr : Room j X.A) (hj : k ≤ j) (ha : PAD X st ow (e :: es) rs ow1) (hb : Brw ow1 rs rs') (hgg : g rs' [] (.d d) []) (hf : FlatD d) (hg : Gl X xn := by rfl) (hdb : (xn == ("__debug__" : Str)) = false := by decide)
    (he : starEach (e :: es) X.env = (false, eval e X.env) :: starEach es X.env := by rfl) (hpl : (backTo pos (starEach es X.env)).any (·.1) = false := by rfl) : PD X st ow (.Call (.Name xn p) (e :: es) [] pos) (.d d) ow1 := by
  obtain ⟨f, fd, h1, hm, hk, hbd⟩ := F
  exact (pe_call h1 (hr.mono hj) hg hm hk hbd .nil pass0 ha hdb he hpl).imp fun σ H Q ⟨S, sl, o, q⟩ => ⟨S, sl, o, fun S1 vs H1 f1 o1 d1 => by
    show spF X.K g (vs ++ []) H1 Q E0
    rw [appnil]
    refine ⟨[], rs', [], .d d, [], brw o1 d1 hb, owns_nil _ _, hgg, fun S2 v H2 f2 o2 d2 => ?_⟩
    have ex := ex_of f2
    have hS2 : S2 = [] := List.length_eq_zero_iff.mp o2.len
    subst hS2
    cases d2 with
    | d d2 => exact q S1 v H2 (f1.trans o1 (.of ex)) (o1.ex ex) (.d (den_flat o1 ex hf d2))⟩
/-- the same, the result a new list of ints -/
theorem pd_cgWL (F : Fg X.prog X.w X.K X.mg X.base xn k ps g) (hr : Room j X.A) (hj : k ≤ j) (ha : PAD X st ow (e :: es) rs ow1) (hb : Brw ow1 rs rs') (hgg : g rs' [] (.own 0) [.l (ns.map D.int)]) (hg : Gl X xn := by rfl) (hdb : (xn == ("__debug__" : Str)) = false := by decide)
    (he : starEach (e :: es) X.env = (false, eval e X.env) :: starEach es X.env := by rfl) (hpl : (backTo pos (starEach es X.env)).any (·.1) = false := by rfl) : PD X st ow (.Call (.Name xn p) (e :: es) [] pos) (.d (.lst (ns.map D.int))) ow1 := by
  obtain ⟨f, fd, h1, hm, hk, hbd⟩ := F
  exact (pe_call h1 (hr.mono hj) hg hm hk hbd .nil pass0 ha hdb he hpl).imp fun σ H Q ⟨S, sl, o, q⟩ => ⟨S, sl, o, fun S1 vs H1 f1 o1 d1 => by
    show spF X.K g (vs ++ []) H1 Q E0
    rw [appnil]
    refine ⟨[], rs', [], .own 0, [.l (ns.map D.int)], brw o1 d1 hb, owns_nil _ _, hgg, fun S2 v H2 f2 o2 d2 => ?_⟩
    have ex := ex_of f2
    obtain ⟨a, xs, rfl, g1, g2, g3⟩ := own_sq o2 d2 rfl
    have e3 := Dens.ints g3
    subst e3
    obtain ⟨qs, e, hq⟩ := f2.gr
    have hn : H1 a = none := hq a (by
      rw [e] at g1
      exact List.mem_of_getElem? g1)
    exact q S1 _ H2 (f1.trans o1 (.of ex)) (o1.ex ex) (.d (.lst (.inl ⟨o1.nin hn, .inl g2⟩) (Dens.of_ints ns)))⟩
theorem mt_lcount : MtR X "list.count" (fun x xs H Q => ∃ (p : Addr) (ns : List Int) (k : Int), x = .ref p ∧ xs = [.int k] ∧ H p = some (.lst (ns.map V.int)) ∧ Q (.int (ns.count k : Nat)) H) := by
  intro pins s σ H x xs v us Q I rx rxs h
  obtain ⟨p, ns, k, rfl, rfl, hs, q⟩ := h
  cases rx
  obtain ⟨u, rfl, ru⟩ := rxs.one
  obtain ⟨t, rfl⟩ := ru
  obtain ⟨hz, its, n, rv, ho⟩ := I.hok p _ hs
  have hi := ints_of_vals rv
  refine call_meets PySem.F.slot_list_count ⟨_, ho, rfl⟩ PySem.F.entry_list_count (PySem.F.args_list_count_2 _ _)
    (SeqAt.list_countAt p its.toArray n none #[] (.int k t) (eqk k)) ⟨ho, fun y hy => (eqk_gives hi y (by simpa using hy)).at _ _, ?_⟩
  have ec : its.toArray.toList.countP (eqk k) = ns.count k := eqk_count hi
  refine ⟨.int (ns.count k : Nat), H, I.tok _, ⟨s.toks, ?_⟩, q⟩
  show Value.int ((its.toArray.toList.countP (eqk k) : Nat) : Int) s.toks = Value.int ((ns.count k : Nat) : Int) s.toks
  rw [ec]
/-- xs.count(i), xs a live list of ints -/
theorem pd_lcount (ho : PD X st ow o (.d (.lstV (ns.map D.int))) ow1) (ha : PD X st ow1 e (.d (.int i)) ow2) (h1 : attributeBase o "count" X.env (eval o X.env) = eval o X.env := by rfl)
    (h2 : ((backTo cpos (starEach [e] X.env)).all (fun x => !x.1) && (backToKw cpos (keywordEach [] X.env)).all (fun x => x.1.isSome) && decide ([e].length + ([] : List Keyword).length + (if ([] : List Keyword).isEmpty then 0 else 1) < 30)) = true := by rfl)
    (h3 : (apos.endLine == cpos.line) = true := by rfl) (h4 : starEach [e] X.env = (false, eval e X.env) :: starEach [] X.env := by rfl) (h5 : (backTo cpos (starEach [] X.env)).any (·.1) = false := by rfl) : PD X st ow (.Call (.Attribute o "count" apos) [e] [] cpos) (.d (.int (ns.count i : Nat))) ow2 :=
  (pe_bm PySem.F.plainAttrs_list PySem.F.slot_list_count PySem.F.type_list_count mt_lcount ho (pa_cons ha pa_nil h4) h1 h2 h3 h4 h5).imp fun σ H Q ⟨S, sl, o, q⟩ => ⟨S, sl, o, fun S1 v H1 f1 o1 d1 => by
    cases d1 with
    | d d1 =>
      have d1' := d1
      cases d1' with
      | lstV n h r =>
        refine ⟨own_tyL h, S1, f1.slots sl, o1, fun S2 w H2 f2 o2 d2 => ?_⟩
        cases d2 with
        | d d2 =>
          have d3 : Den X.K S2 H2 _ (.lstV (ns.map D.int)) := f2.den d1
          cases d3 with
          | lstV n3 h3 r3 =>
            have e3 := Dens.ints r3
            subst e3
            exact ⟨_, ns, i, rfl, by rw [d2.of_int], h3, q S2 _ _ (f1.trans o1 f2) o2 (.d (.int _))⟩⟩
end
end Bl
set_option Elab.async false
set_option linter.all false
set_option maxRecDepth 100000
set_option maxHeartbeats 16000000
namespace Bl
open PySem PySem.Spec PyProof.Rows L2
/-! ### the charts without one line each -/
theorem seven_cases {n : Int} (h0 : 0 ≤ n) (h : n ≤ 7) : n = 0 ∨ n = 1 ∨ n = 2 ∨ n = 3 ∨ n = 4 ∨ n = 5 ∨ n = 6 ∨ n = 7 := by omega
theorem others_lenE {n x : Int} (h0 : 0 ≤ n) (h7 : n ≤ 7) (hx : x ∈ rngZ n) : ((othersZ n x).length : Int) = n - 1 := by
  have key : ∀ x ∈ rngZ n, ((othersZ n x).length : Int) = n - 1 := by
    rcases seven_cases h0 h7 with rfl | rfl | rfl | rfl | rfl | rfl | rfl | rfl <;> decide +kernel
  exact key x hx
theorem others_A {n x : Int} (h7 : n ≤ 7) : LotA n (othersZ n x) := ⟨(rngZ_pw n).filter _, fun y hy => (mem_others hy).1, by have := others_len (n := n) (x := x); omega⟩
def gsP (b m : Nat) : List (Int × Nat) := (List.range m).map fun i => ((0 : Int), b + i)
theorem gsP_snoc (b m : Nat) : gsP b (m + 1) = gsP b m ++ [(0, b + m)] := by unfold gsP; rw [List.range_succ, List.map_append]; rfl
theorem gsP_len (b m : Nat) : (gsP b m).length = m := by simp [gsP]
theorem gsP_get {b m i : Nat} (h : i < m) : (gsP b m)[i]? = some (0, b + i) := by unfold gsP; rw [List.getElem?_map, List.getElem?_range h]; rfl
def prt (n : Int) (G : List Int → Int) : OB := .t (tabI (tabF (n - 1) G))
def prts (n : Int) (Gs : Int → List Int → Int) (m : Nat) : List OB := (List.range m).map fun i => prt n (Gs ((i : Nat) : Int))
theorem prts_snoc (n : Int) (Gs : Int → List Int → Int) (m : Nat) : prts n Gs (m + 1) = prts n Gs m ++ [prt n (Gs ((m : Nat) : Int))] := by unfold prts; rw [List.range_succ, List.map_append]; rfl
theorem prts_len (n : Int) (Gs : Int → List Int → Int) (m : Nat) : (prts n Gs m).length = m := by simp [prts]
theorem prts_get {n : Int} {Gs : Int → List Int → Int} {m i : Nat} (h : i < m) : (prts n Gs m)[i]? = some (prt n (Gs ((i : Nat) : Int))) := by unfold prts; rw [List.getElem?_map, List.getElem?_range h]; rfl
theorem prts_set {n : Int} {Gs : Int → List Int → Int} {G : List Int → Int} {m i : Nat} (h : i < m) : (prts n Gs m).set i (prt n G) = prts n (fun x => if x = ((i : Nat) : Int) then G else Gs x) m := by
  apply List.ext_getElem?
  intro j
  by_cases hj : i = j
  · subst hj
    rw [List.getElem?_set_self (by rw [prts_len]; exact h), prts_get h, if_pos rfl]
  · rw [List.getElem?_set_ne hj]
    by_cases hm : j < m
    · rw [prts_get hm, prts_get hm, if_neg (by omega)]
    · rw [List.getElem?_eq_none (by rw [prts_len]; omega), List.getElem?_eq_none (by rw [prts_len]; omega)]
theorem rngZ_at {n x : Int} {l r : List Int} (h : rngZ n = l ++ x :: r) : x = (l.length : Int) ∧ l.length < n.toNat := by
  have hl : l.length < n.toNat := by
    have := congrArg List.length h
    rw [rngZ_len, List.length_append, List.length_cons] at this
    omega
  have h2 : (rngZ n)[l.length]? = some x := by rw [h, List.getElem?_append_right (Nat.le_refl _), Nat.sub_self]; rfl
  unfold rngZ at h2
  rw [List.getElem?_map, List.getElem?_range hl] at h2
  have h3 : 0 + (l.length : Int) = x := Option.some.inj h2
  exact ⟨by omega, hl⟩
def cnt1 (s : Nat) (_ : Int) : Nat := s + 1
theorem cnt_fold : ∀ (l : List Int) (s : Nat), l.foldl cnt1 s = s + l.length
  | [], s => rfl
  | a :: l, s => by rw [List.foldl_cons, cnt_fold l, List.length_cons]; unfold cnt1; omega
/-- a list of mutable tables at the end of the mutable things -/
abbrev lvO (ow : List OB) (b : Nat) (n : Int) (Gs : Int → List Int → Int) (m : Nat) : List OB := ow ++ (.r (gsP b m) :: prts n Gs m)
section
variable {ow tl : List OB} {b m i kp : Nat} {n : Int} {Gs : Int → List Int → Int} {x y : OB}
theorem lv_len : (lvO ow b n Gs m).length = ow.length + 1 + m := by rw [List.length_append, List.length_cons, prts_len]; omega
theorem lv_r : (lvO ow b n Gs m ++ tl)[ow.length]? = some (.r (gsP b m)) := by
  rw [List.getElem?_append_left (by rw [lv_len]; omega), List.getElem?_append_right (Nat.le_refl _), Nat.sub_self]; rfl
theorem lv_p (hb : b = ow.length + 1) (h : i < m) : (lvO ow b n Gs m ++ tl)[b + i]? = some (prt n (Gs ((i : Nat) : Int))) := by
  rw [List.getElem?_append_left (by rw [lv_len]; omega), List.getElem?_append_right (by omega), show b + i - ow.length = i + 1 by omega, List.getElem?_cons_succ, prts_get h]
theorem lv_k (h : ow[kp]? = some x) : (lvO ow b n Gs m ++ tl)[kp]? = some x := by
  have := (List.getElem?_eq_some_iff.mp h).1
  rw [List.append_assoc, List.getElem?_append_left this]; exact h
theorem lv_sk (h : ow[kp]? = some x) : (lvO ow b n Gs m ++ tl).set kp y = lvO (ow.set kp y) b n Gs m ++ tl := by
  have := (List.getElem?_eq_some_iff.mp h).1
  rw [List.append_assoc, List.set_append_left _ _ this, List.append_assoc]
theorem lv_sp (hb : b = ow.length + 1) (h : i < m) (G : List Int → Int) : (lvO ow b n Gs m ++ tl).set (b + i) (prt n G) = lvO ow b n (fun x => if x = ((i : Nat) : Int) then G else Gs x) m ++ tl := by
  rw [List.set_append_left _ _ (by rw [lv_len]; omega), List.set_append_right _ _ (by omega), show b + i - ow.length = i + 1 by omega, List.set_cons_succ, prts_set h]
theorem lv_r0 : (lvO ow b n Gs m)[ow.length]? = some (.r (gsP b m)) := by have := lv_r (ow := ow) (b := b) (n := n) (Gs := Gs) (m := m) (tl := []); rwa [List.append_nil] at this
theorem lv_p0 (hb : b = ow.length + 1) (h : i < m) : (lvO ow b n Gs m)[b + i]? = some (prt n (Gs ((i : Nat) : Int))) := by have := lv_p (tl := []) (n := n) (Gs := Gs) hb h; rwa [List.append_nil] at this
theorem lv_k0 (h : ow[kp]? = some x) : (lvO ow b n Gs m)[kp]? = some x := by have := lv_k (tl := []) (b := b) (n := n) (Gs := Gs) (m := m) h; rwa [List.append_nil] at this
theorem lv_sk0 (h : ow[kp]? = some x) : (lvO ow b n Gs m).set kp y = lvO (ow.set kp y) b n Gs m := by have := lv_sk (tl := []) (b := b) (n := n) (Gs := Gs) (m := m) (y := y) h; rwa [List.append_nil, List.append_nil] at this
theorem lv_sp0 (hb : b = ow.length + 1) (h : i < m) (G : List Int → Int) : (lvO ow b n Gs m).set (b + i) (prt n G) = lvO ow b n (fun x => if x = ((i : Nat) : Int) then G else Gs x) m := by have := lv_sp (tl := []) (n := n) (Gs := Gs) hb h G; rwa [List.append_nil, List.append_nil] at this
theorem noIow_lv (h : NoIow ow) : NoIow (lvO ow b n Gs m) := fun q hq => by
  rcases List.mem_append.mp hq with z | z
  · exact h q z
  · rcases List.mem_cons.mp z with z | z
    · rw [z]; trivial
    · obtain ⟨j, _, rfl⟩ := List.mem_map.mp z
      show NoIob (.t _)
      intro p hp
      obtain ⟨r, _, rfl⟩ := List.mem_map.mp hp
      exact .int _
end
section
variable {P : Program} {w : World} {K : PySem.W.Frag} {mg : Str → Option Value} {base : Heap} {f fE fG : Addr} {fd fdE fdG : FuncData} {k ke : Nat} {C : Addr} {psE psG : List Str}
abbrev sLeav : Stmt := topS 56
abbrev nLeav : List Str := ["_law_size_here", "_law_table_here", "_law_parts", "_law_x", "_law_line"]
theorem scLeav : FnScope nLeav ["_law_size_here", "_law_table_here"] (defScope sLeav) := ⟨rfl, rfl, rfl, by decide +kernel, rfl, by decide +kernel, by decide +kernel⟩
def gLeav : GG := fun rs ow r ow' => ∃ (n : Int) (F : List Int → Int), rs = [.d (.int n), .d (tabD' n F)] ∧ 0 ≤ n ∧ n ≤ 7 ∧ r = .own ow.length ∧ ow' = lvO ow (ow.length + 1) n (fun x => FP F (othersZ n x)) n.toNat
abbrev lvS (n : Int) (F : List Int → Int) (kk : Nat) (x : Option R) : Sta := [some (.d (.int n)), some (.d (tabD' n F)), some (.own kk), x, none]
theorem ok_leav (F0 : Fun K "_law_leavings" "_law_leavings" sLeav f fd) (C1 : Fg P w K mg base "_law_part" k ["_law_table_here", "_law_lot_here"] gPartL) (mR : mg "range" = none) : FnOk P w K mg base CX0 (k + 1) f fd ["_law_size_here", "_law_table_here"] (spF K gLeav) := by
  refine okF F0 scLeav (fun rs ow r ow' h => ?_) (fun cdv A outer s H E hr rs ow r ow' h => ?_)
  · obtain ⟨n, F, rfl, _⟩ := h
    rfl
  · obtain ⟨n, F, rfl, h0, h7, rfl, rfl⟩ := h
    refine pbd_cons (psd_set 2 scLeav.nd pd_newR) ?_
    have hend : (rngZ n).foldl cnt1 0 = n.toNat := by rw [cnt_fold, rngZ_len, Nat.zero_add]
    rw [← hend]
    refine pbd_cons (psd_forF [3] (rngZ n) D.int (0 : Nat) cnt1 (fun _ => lvS n F ow.length none) (fun _ x => lvS n F ow.length (some (.d (.int x)))) (fun s => lvO ow (ow.length + 1) n (fun x => FP F (othersZ n x)) s) PassesOwn.never rfl
      (pid_eq (pid_range1 mR (padd_cons (pd_var 0) padd_nil) (by omega)) (rngD_Z n)) ⟨rfl, fun i r h => h⟩ rfl (fun l x r hl => pgd_name 3 scLeav.nd) (fun l x r hl => ?_)) ?_
    · obtain ⟨hx, hlt⟩ := rngZ_at hl
      have hxm := (pre_mem hl).1
      rw [cnt_fold, Nat.zero_add]
      generalize l.length = m at hx hlt
      refine pbd_weak (st1 := lvS n F ow.length (some (.d (.int x)))) (pbd_cons (psd_expr (pd_ow (pd_appendR (gs := gsP (ow.length + 1) m) (pd_var 2) (pd_cg C1 hr (Nat.le_refl _) (padd_cons (pd_var 1) (padd_cons (pd_eqD (d' := .lst ((othersZ n x).map D.int)) (pd_lc (own := [("_law_line", 4)]) (rngZ n) D.int (fun y => [some (.d (.int n)), some (.d (tabD' n F)), some (.own ow.length), some (.d (.int x)), some (.d (.int y))]) (fun y => !decide (V.int y = V.int x)) D.int
        rfl scLeav.nd (pid_eq (pid_range1 mR (padd_cons (pd_var 0) padd_nil) (by omega)) (rngD_Z n)) (blkOk_by (N := nLeav) (sc := defScope sLeav) (by decide +kernel)) (by rw [rngZ_len]; omega) (fun y hy _ H C' cl fp => pgd_name 4 scLeav.nd) (fun y hy l _ H C' cl fp => ptsd_one (ptd_ne (pd_var 4) (pd_var 3))) (fun y hy _ l _ H C' cl fp => pd_var 4)) rfl) padd_nil)) ⟨n, F, othersZ n x, rfl, h0, h7, others_A h7, rfl, rfl⟩) ⟨_, lv_r0⟩ lv_r (by rw [gsP_len]; omega)) ?_)) pbd_nil) rfl (by (intro i r h; rcases i with _ | _ | _ | _ | _ | i <;> first | exact h | cases h))
      rw [others_lenE h0 h7 hxm, lv_len, List.append_assoc, List.set_append_right _ _ (Nat.le_refl _), Nat.sub_self]
      show ow ++ (OB.r _ :: (prts n _ m ++ [_])) = ow ++ (OB.r (gsP (ow.length + 1) (m + 1)) :: prts n (fun x => FP F (othersZ n x)) (m + 1))
      rw [gsP_snoc, prts_snoc, hx]
      rfl
    · exact pbd_last (psd_ret (pd_var 2))
end
end Bl
set_option Elab.async false
set_option linter.all false
set_option maxRecDepth 100000
set_option maxHeartbeats 16000000
namespace Bl
open PySem PySem.Spec PyProof.Rows L2
/-! ### charts glued of their parts -/
def atZ (x : Int) (q : List Int) : List Int := q.map fun l => l - (if decide (x < l) = true then 1 else 0)
def toldZ (n : Int) (Gs : Int → List Int → Int) (q : List Int) : List Int := ((rngZ n).filter fun x => !decide (x ∈ q)).map fun x => Gs x (atZ x q)
def gluQ (n : Int) (Gs : Int → List Int → Int) (q : List Int) : Int := (toldZ n Gs q).headD 0
def agrQ (n : Int) (Gs : Int → List Int → Int) (q : List Int) : Bool := decide (((toldZ n Gs q).count (gluQ n Gs q) : Int) = ((toldZ n Gs q).length : Int))
theorem at_fact {n : Int} (h5 : 5 ≤ n) (h7 : n ≤ 7) : (∀ q ∈ sub3 (rngZ n), ∀ x ∈ rngZ n, x ∉ q → atZ x q ∈ sub3 (rngZ (n - 1)) ∧ (atZ x q).map (gI (othersZ n x)) = q) ∧
    (∀ x ∈ rngZ n, ∀ p ∈ sub3 (rngZ (n - 1)), p.map (gI (othersZ n x)) ∈ sub3 (rngZ n) ∧ x ∉ p.map (gI (othersZ n x)) ∧ atZ x (p.map (gI (othersZ n x))) = p) ∧ (∀ q ∈ sub3 (rngZ n), ((rngZ n).filter fun x => !decide (x ∈ q)).isEmpty = false) := by
  have : n = 5 ∨ n = 6 ∨ n = 7 := by omega
  rcases this with rfl | rfl | rfl
  · refine ⟨?_, ?_, ?_⟩ <;> decide +kernel
  · refine ⟨?_, ?_, ?_⟩ <;> decide +kernel
  · refine ⟨?_, ?_, ?_⟩ <;> decide +kernel
theorem told_mem {n : Int} {Gs : Int → List Int → Int} {q : List Int} {x : Int} (hx : x ∈ rngZ n) (hq : x ∉ q) : Gs x (atZ x q) ∈ toldZ n Gs q := List.mem_map.mpr ⟨x, List.mem_filter.mpr ⟨hx, by simpa using hq⟩, rfl⟩
theorem told_head {n : Int} {Gs : Int → List Int → Int} {q : List Int} (h5 : 5 ≤ n) (h7 : n ≤ 7) (hq : q ∈ sub3 (rngZ n)) : (toldZ n Gs q)[0]? = some (gluQ n Gs q) := by
  have h := (at_fact h5 h7).2.2 q hq
  unfold gluQ toldZ
  cases hl : (rngZ n).filter fun x => !decide (x ∈ q) with
  | nil => rw [hl] at h; cases h
  | cons a l => rfl
theorem glue_eq {n : Int} {Gs : Int → List Int → Int} (h5 : 5 ≤ n) (h7 : n ≤ 7) : ((rngZ n).all fun x => decide (cns (n - 1) (FP (gluQ n Gs) (othersZ n x)) = cns (n - 1) (Gs x))) = (sub3 (rngZ n)).all (agrQ n Gs) := by
  obtain ⟨f1, f2, f3⟩ := at_fact h5 h7
  rw [Bool.eq_iff_iff, List.all_eq_true, List.all_eq_true]
  constructor
  · intro h q hq
    have each : ∀ v ∈ toldZ n Gs q, gluQ n Gs q = v := fun v hv => by
      obtain ⟨x, hx, rfl⟩ := List.mem_map.mp hv
      obtain ⟨hx1, hx2⟩ := List.mem_filter.mp hx
      have hx2 : x ∉ q := by simpa using hx2
      obtain ⟨g1, g2⟩ := f1 q hq x hx1 hx2
      have := List.map_inj_left.mp (of_decide_eq_true (h x hx1)) (atZ x q) g1
      unfold FP at this
      rw [g2] at this
      exact this
    unfold agrQ
    rw [List.count_eq_length.mpr each]
    exact decide_eq_true rfl
  · intro h x hx
    refine decide_eq_true (List.map_congr_left fun p hp => ?_)
    obtain ⟨g1, g2, g3⟩ := f2 x hx p hp
    have ha := of_decide_eq_true (h _ g1)
    have hm := told_mem (Gs := Gs) hx g2
    have := List.count_eq_length.mp (by omega : (toldZ n Gs (p.map (gI (othersZ n x)))).count (gluQ n Gs (p.map (gI (othersZ n x)))) = (toldZ n Gs (p.map (gI (othersZ n x)))).length) _ hm
    rw [g3] at this
    exact this
theorem glu_sgn {n : Int} {Gs : Int → List Int → Int} (h : ∀ x, SgnF (Gs x)) : SgnF (gluQ n Gs) := fun q => by
  unfold gluQ
  cases hl : toldZ n Gs q with
  | nil => exact ⟨by decide, by decide⟩
  | cons a l =>
    have : a ∈ toldZ n Gs q := by rw [hl]; exact List.mem_cons_self
    obtain ⟨x, _, rfl⟩ := List.mem_map.mp this
    exact h x _
def tldStep (Gs : Int → List Int → Int) (q : List Int) (s : List Int) (x : Int) : List Int := if x ∈ q then s else s ++ [Gs x (atZ x q)]
theorem tld_fold (Gs : Int → List Int → Int) (q : List Int) : ∀ (l s : List Int), l.foldl (tldStep Gs q) s = s ++ (l.filter fun x => !decide (x ∈ q)).map fun x => Gs x (atZ x q)
  | [], s => by simp
  | a :: l, s => by
    rw [List.foldl_cons, tld_fold Gs q l]
    unfold tldStep
    by_cases h : a ∈ q
    · rw [if_pos h, List.filter_cons_of_neg (by simpa using h)]
    · rw [if_neg h, List.filter_cons_of_pos (by simpa using h), List.map_cons, List.append_assoc]; rfl
def gluStep (n : Int) (Gs : Int → List Int → Int) (s : Bool × List Int) (q : List Int) : Bool × List Int := (s.1 && agrQ n Gs q, s.2 ++ [gluQ n Gs q])
theorem glu_fold (n : Int) (Gs : Int → List Int → Int) : ∀ (l : List (List Int)) (s : Bool × List Int), l.foldl (gluStep n Gs) s = (s.1 && l.all (agrQ n Gs), s.2 ++ l.map (gluQ n Gs))
  | [], s => by simp
  | a :: l, s => by
    rw [List.foldl_cons, glu_fold n Gs l]
    unfold gluStep
    rw [List.all_cons, Bool.and_assoc, List.map_cons, List.append_assoc]
    rfl
def samB (n : Int) (Gs : Int → List Int → Int) (x : Int) : Bool := decide (cns (n - 1) (FP (gluQ n Gs) (othersZ n x)) = cns (n - 1) (Gs x))
def samStep (n : Int) (Gs : Int → List Int → Int) (s : Bool) (x : Int) : Bool := s && samB n Gs x
theorem sam_fold (n : Int) (Gs : Int → List Int → Int) : ∀ (l : List Int) (s : Bool), l.foldl (samStep n Gs) s = (s && l.all (samB n Gs))
  | [], s => by simp
  | a :: l, s => by
    rw [List.foldl_cons, sam_fold n Gs l]
    unfold samStep
    rw [List.all_cons, Bool.and_assoc]
def gluZ (n : Int) (ps : List Int) (Gs : Int → List Int → Int) : List Int × (Int → List Int → Int) :=
  if nextV ps 2 = 1 then (ps.dropLast.dropLast.dropLast.dropLast, fun x => if x = nextV ps.dropLast n then (fun p => if p = spQ (n - 1) ps.dropLast.dropLast then (Gs (nextV ps.dropLast n) (spQ (n - 1) ps.dropLast.dropLast) + 2 + nextV ps.dropLast.dropLast.dropLast 2) % 3 - 1 else Gs (nextV ps.dropLast n) p) else Gs x)
  else (ps.dropLast, Gs)
theorem gluZ_sgn {n : Int} {ps : List Int} {Gs : Int → List Int → Int} (h : ∀ x, SgnF (Gs x)) : ∀ x, SgnF ((gluZ n ps Gs).2 x) := fun x => by
  unfold gluZ
  split
  · intro q
    dsimp only
    split
    · dsimp only
      split
      · have h1 := Int.emod_nonneg (Gs (nextV ps.dropLast n) (spQ (n - 1) ps.dropLast.dropLast) + 2 + nextV ps.dropLast.dropLast.dropLast 2) (show (3 : Int) ≠ 0 by decide)
        have h2 := Int.emod_lt_of_pos (Gs (nextV ps.dropLast n) (spQ (n - 1) ps.dropLast.dropLast) + 2 + nextV ps.dropLast.dropLast.dropLast 2) (show (0 : Int) < 3 by decide)
        omega
      · exact h _ q
    · exact h _ q
  · exact h x
section
variable {X : Cx} {e : Expr} {st : Sta} {ow ow1 : List OB} {p pos : Pos} {bb : Bool}
theorem psd_nx {s : Stmt} {stA stB : Sta} {owA owB : List OB} (h : PSD X st ow s (.nx stA owA)) (hs : stA = stB) (ho : owA = owB) : PSD X st ow s (.nx stB owB) := ho ▸ hs ▸ h
theorem ptd_eqI {C f : Addr} {fd : FuncData} {ps : List Str} {k : Nat} {g : GG} {a b : Expr} {ow2 ow3 : List OB} {gs1 gs2 : List (Str × D)} {bl : Bool} (F : FnOk X.prog X.w X.K X.mg X.base CX0 k f fd ps (spF X.K g)) (hs : PySem.W.findIn X.K (.ref C) "__eq__" = some (some (.ref f))) (hf : PySem.W.isFn X.K (.ref f) = true) (hbd : Binds X.K fd ps []) (hr : Room k X.A) (ha : PD X st ow a (.d (.ins C gs1)) ow1) (hb : PD X st ow1 b (.d (.ins C gs2)) ow2) (hgg : g [.d (.ins C gs1), .d (.ins C gs2)] ow2 (.d (.bl bl)) ow3) : PTD X st ow (.Compare a [.Eq] [b] pos) bl ow3 :=
  (pt_cmpR (op_eqOwn F hs hf hbd hr) ha hb (nomark _)).imp fun σ H Q ⟨S, sl, o, q⟩ => ⟨S, sl, o, fun S1 v1 H1 f1 o1 d1 => ⟨S1, f1.slots sl, o1, fun S2 v2 H2 f2 o2 d2 => by
    cases d1 with
    | d d1 =>
      cases d2 with
      | d d2 =>
        have d1' : Den X.K S2 H2 v1 (.ins C gs1) := f2.den d1
        obtain ⟨a, dx, fs, ea, ha⟩ := den_insA d1'
        obtain ⟨b, dy, fs2, eb, hb⟩ := den_insA d2
        refine ⟨a, b, dx, dy, fs, fs2, ea, eb, ha, hb, S2, [.d (.ins C gs1), .d (.ins C gs2)], ow2, .d (.bl bl), ow3, .cons (.d d1') (.cons (.d d2) .nil), o2, hgg, fun S3 v H3 f3 o3 d3 => ?_⟩
        cases d3 with
        | d d3 => exact ⟨bl, d3.of_bl, bl, rfl, q S3 H3 (f1.trans o1 (f2.trans o2 f3)) o3⟩⟩⟩
/-- list(d), d data with tuples of ints for keys -/
theorem pd_listDT {l : List (List Int × Int)} (hc : X.calm = true) (hm : X.mg "list" = none) (ha : PD X st ow e (.d (.dT (tabI l))) ow1) (hg : Gl X "list" := by rfl) (he : starEach [e] X.env = (false, eval e X.env) :: starEach [] X.env := by rfl) : PD X st ow (.Call (.Name "list" p) [e] [] pos) (.d (.lst (l.map fun p => tupI p.1))) ow1 :=
  (pe_callTy (call_list_dT hc) hg hm (by decide +kernel) (pa_cons ha pa_nil he) (by decide) (by decide) he rfl).imp fun σ H Q ⟨S, sl, o, q⟩ => ⟨S, sl, o, fun S1 vs H1 f1 o1 d1 => by
    cases d1 with
    | d d1 =>
      cases d1 with
      | @dT a kvs _ n g2 g3 =>
        refine ⟨a, kvs, rfl, .inl g2, fun p bs hp hb => ?_⟩
        have ex := Evl.Ex.new (o := HO.lst (bs.map V.ref)) hp
        refine q S1 _ _ (f1.trans o1 (.of ex)) (o1.ex ex) (.d (.lst (.inl ⟨o1.nin hp, .inl upd_same⟩) (dens_isKeys o1 ex g3 hb)))⟩
theorem pd_intB (hm : X.mg "int" = none) (ha : PADd X st ow [e] [.bl bb] ow1) (hg : Gl X "int" := by rfl) (he : starEach [e] X.env = [(false, eval e X.env)] := by rfl) : PD X st ow (.Call (.Name "int" p) [e] [] pos) (.d (.int (if bb then 1 else 0))) ow1 :=
  pd_callTy call_int1 (fun S H ow vs Q o h q => by
    obtain ⟨v, rfl, g⟩ := dens1 h
    exact .inr ⟨bb, by rw [g.of_bl], q _ _ (Evl.Ex.refl H) (.int _)⟩) hm (by decide +kernel) ha hg (by decide) (by decide) he rfl
end
section
variable {P : Program} {w : World} {K : PySem.W.Frag} {mg : Str → Option Value} {base : Heap} {f fE fG : Addr} {fd fdE fdG : FuncData} {k ke : Nat} {C : Addr} {psE psG : List Str}
abbrev sGlu : Stmt := topS 57
abbrev nGlu : List Str := ["_law_pool_here", "_law_size_here", "_law_table_here", "_law_parts", "_law_which", "_law_three", "_law_agree", "_law_glued", "_law_told", "_law_x", "_law_line", "_law_at", "_law_chart", "_law_same", "_law_other"]
abbrev pGlu : List Str := ["_law_pool_here", "_law_size_here", "_law_table_here", "_law_parts"]
theorem scGlu : FnScope nGlu pGlu (defScope sGlu) := ⟨rfl, rfl, rfl, by decide +kernel, rfl, by decide +kernel, by decide +kernel⟩
def gGlued (C : Addr) : GG := fun rs ow r ow' => ∃ (kp : Nat) (ps : List Int) (n : Int) (F : List Int → Int) (ow0 : List OB) (Gs : Int → List Int → Int), rs = [.own kp, .d (.int n), .d (tabD' n F), .own ow0.length] ∧ ow = lvO ow0 (ow0.length + 1) n Gs n.toNat ∧ ow0[kp]? = some (.l (ps.map D.int)) ∧ 5 ≤ n ∧ n ≤ 7 ∧ (∀ x, SgnF (Gs x)) ∧ NoIow ow0 ∧ r = .d (.bl true) ∧
  ow' = lvO (ow0.set kp (.l ((gluZ n ps Gs).1.map D.int))) (ow0.length + 1) n (gluZ n ps Gs).2 n.toNat
abbrev gkS (kp : Nat) (n : Int) (F : List Int → Int) (kr : Nat) (w t a g o x ln at_ c s ot : Option R) : Sta := [some (.own kp), some (.d (.int n)), some (.d (tabD' n F)), some (.own kr), w, t, a, g, o, x, ln, at_, c, s, ot]
def gSignsO : GG := fun rs ow r ow' => ∃ (n : Int) (F : List Int → Int), rs = [.d (.int n), .d (.dT (tabI (tabF n F)))] ∧ 0 ≤ n ∧ n ≤ 7 ∧ r = .own ow.length ∧ ow' = ow ++ [.l (((sub3 (rngZ n)).map F).map D.int)]
theorem ok_signsO (F : Fun K "_law_signs" "_law_signs" sSigns f fd) (mR : mg "range" = none) : FnOk P w K mg base CX0 (k + 1) f fd ["_law_size_here", "_law_table_here"] (spF K gSignsO) := by
  refine okF F scSigns (fun rs ow r ow' h => ?_) (fun cdv A outer s H E hr rs ow r ow' h => ?_)
  · obtain ⟨n, F, rfl, _⟩ := h
    rfl
  · obtain ⟨n, F, rfl, h0, h1, rfl, rfl⟩ := h
    have hu := room_u hr
    rw [← n3_list h0 h1]
    refine pbd_cons (psd_set 2 scSigns.nd (pd_lstO padd_nil)) ?_
    unfold n3
    generalize hg : (fun (s : List Int) q => s ++ [F q]) = g
    have happ : ∀ s q, g s q = s ++ [F q] := fun s q => by rw [← hg]
    have hD : ∀ (i j : Int) (s : List Int) (x : Int), (f3 g i j s x).length = s.length + 1 := fun i j s x => by
      unfold f3
      rw [happ, List.length_append]
      rfl
    have lenG : ∀ {β : Type} (ff : List Int → β → List Int) (c : Nat) (l : List β) (s : List Int), (∀ s x, x ∈ l → (ff s x).length ≤ s.length + c) → (l.foldl ff s).length ≤ s.length + l.length * c := by
      intro β ff c l
      induction l with
      | nil => intro s _; simp
      | cons x l ih =>
        intro s h
        have h1 := ih (ff s x) fun s y hy => h s y (List.mem_cons_of_mem _ hy)
        have h2 := h s x List.mem_cons_self
        rw [List.foldl_cons, List.length_cons, Nat.succ_mul]
        omega
    have hC : ∀ (i j : Int) (s : List Int), 0 ≤ j → (f2 n g i s j).length ≤ s.length + 7 := fun i j s h => by
      have := lenG (f3 g i j) 1 (upr n j) s fun s x _ => Nat.le_of_eq (hD i j s x)
      have := upr_len n j h h1
      unfold f2
      omega
    have hB : ∀ (i : Int) (s : List Int), 0 ≤ i → (f1 n g s i).length ≤ s.length + 49 := fun i s h => by
      have := lenG (f2 n g i) 7 (upr n i) s fun s j hj => hC i j s (by have := mem_upr hj; omega)
      have := upr_len n i h h1
      unfold f1
      omega
    refine pbd_cons (psd_forF [3] (rngZ n) D.int [] (f1 n g) (fun _ => sgSt n F ow.length none none none) (fun _ i => sgSt n F ow.length (some (.d (.int i))) none none) (fun s => ow ++ [.l (s.map D.int)]) PassesOwn.never rfl
      (pid_eq (pid_range1 mR (padd_cons (pd_var 0) padd_nil) (by omega)) (rngD_Z n)) ⟨rfl, fun i r h => h⟩ rfl (fun l i r hl => pgd_name 3 scSigns.nd) (fun l i r hl => ?_)) ?_
    · obtain ⟨hi1, hi2, hi3⟩ := pre_mem hl
      have hi := mem_rngZ hi1
      rw [rngZ_len] at hi3
      have hL := lenG (f1 n g) 49 l [] (fun s x hx => hB x s (mem_rngZ (hi2 x hx)).1)
      rw [List.length_nil] at hL
      generalize List.foldl (f1 n g) [] l = s0 at hL
      refine pbd_weak (st1 := sgSt n F ow.length (some (.d (.int i))) none none) (pbd_cons (psd_forF [4] (upr n i) D.int s0 (f2 n g i) (fun _ => sgSt n F ow.length (some (.d (.int i))) none none) (fun _ j => sgSt n F ow.length (some (.d (.int i))) (some (.d (.int j))) none) (fun s => ow ++ [.l (s.map D.int)]) PassesOwn.never rfl
        (pid_eq (pid_range2 mR (padd_cons (pd_add (pd_var 3) pd_int) (padd_cons (pd_var 0) padd_nil)) (by omega) (by omega)) (rgZ_D _ _)) ⟨rfl, fun i r h => h⟩ rfl (fun l j r hl => pgd_name 4 scSigns.nd) (fun l j r hl => ?_)) pbd_nil) rfl (by (intro i r h; rcases i with _ | _ | _ | _ | _ | _ | i <;> first | exact h | cases h))
      obtain ⟨hj1, hj2, hj3⟩ := pre_mem hl
      have hj := mem_upr hj1
      have hji := upr_len n i hi.1 h1
      have hL2 := lenG (f2 n g i) 7 l s0 (fun s x hx => hC i x s (by have := mem_upr (hj2 x hx); omega))
      generalize List.foldl (f2 n g i) s0 l = s1 at hL2
      refine pbd_weak (st1 := sgSt n F ow.length (some (.d (.int i))) (some (.d (.int j))) none) (pbd_cons (psd_forF [5] (upr n j) D.int s1 (f3 g i j) (fun _ => sgSt n F ow.length (some (.d (.int i))) (some (.d (.int j))) none) (fun _ k => sgSt n F ow.length (some (.d (.int i))) (some (.d (.int j))) (some (.d (.int k)))) (fun s => ow ++ [.l (s.map D.int)]) PassesOwn.never rfl
        (pid_eq (pid_range2 mR (padd_cons (pd_add (pd_var 4) pd_int) (padd_cons (pd_var 0) padd_nil)) (by omega) (by omega)) (rgZ_D _ _)) ⟨rfl, fun i r h => h⟩ rfl (fun l k r hl => pgd_name 5 scSigns.nd) (fun l k r hl => ?_)) pbd_nil) rfl (by (intro i r h; rcases i with _ | _ | _ | _ | _ | _ | i <;> first | exact h | cases h))
      obtain ⟨hk1, hk2, hk3⟩ := pre_mem hl
      have hk := mem_upr hk1
      have hkj := upr_len n j (by omega) h1
      have hL3 := lenG (f3 g i j) 1 l s1 fun s x _ => Nat.le_of_eq (hD i j s x)
      generalize List.foldl (f3 g i j) s1 l = s2 at hL3
      have e3 : f3 g i j s2 k = s2 ++ [F [i, j, k]] := by
        unfold f3
        rw [happ]
      rw [e3]
      have hmem := mem_sub3 h0 h1 hi.1 hj.1 hk.1 hk.2
      refine pbd_weak (st1 := sgSt n F ow.length (some (.d (.int i))) (some (.d (.int j))) (some (.d (.int k)))) (pbd_cons (psd_expr (pd_ow (pd_append (pd_var 2) (pd_getT (ns := [i, j, k]) hu (pd_var 1) (pd_tup (padd_cons (pd_var 3) (padd_cons (pd_var 4) (padd_cons (pd_var 5) padd_nil)))) (lookI_some (lookI_F hmem))) ⟨_, app_get⟩ app_get ?_) ?_)) pbd_nil) rfl (by (intro i r h; rcases i with _ | _ | _ | _ | _ | _ | i <;> first | exact h | cases h))
      · rw [List.length_map]; omega
      · rw [set_last, List.map_append]
        rfl
    · exact pbd_last (psd_ret (pd_var 2))
theorem ok_glued (F0 : Fun K "_law_glued_kept" "_law_glued_kept" sGlu f fd) (T : ChTxt K C) (M : Mk K C fG) {ki : Nat} (GI : FnOk P w K mg base CX0 ki fG fdG psG (spI K C gInit)) (hki : ki + 1 ≤ k) (mC : mg "Chart" = some (.ref C)) (bI : Binds K fdG psG []) (M1 : Mt P w K mg base C "part" k ["self", "lot"] (gPart C)) (EQ : FnOk P w K mg base CX0 ke fE fdE psE (spF K (gEqC C))) (hke : ke ≤ k) (heq : PySem.W.findIn K (.ref C) "__eq__" = some (some (.ref fE))) (hef : PySem.W.isFn K (.ref fE) = true) (bE : Binds K fdE psE [])
    (C1 : Fg P w K mg base "_law_next" k ["_law_pool_here", "_law_many"] gNext) (C2 : Fg P w K mg base "_law_signs" k ["_law_size_here", "_law_table_here"] gSignsO)
    (mN : mg "len" = none) (mT : mg "tuple" = none) (mL : mg "list" = none) (mR : mg "range" = none) (mI : mg "int" = none) : FnOk P w K mg base CX0 (k + 1) f fd pGlu (spF K (gGlued C)) := by
  refine okF F0 scGlu (fun rs ow r ow' h => ?_) (fun cdv A outer s H E hr rs ow r ow' h => ?_)
  · obtain ⟨kp, ps, n, F, ow0, Gs, rfl, _⟩ := h
    rfl
  · obtain ⟨kp, ps, n, F, ow0, Gs, rfl, rfl, hk, h5, h7, hG, no, rfl, rfl⟩ := h
    have hu := room_u hr
    have hkl : kp < ow0.length := (List.getElem?_eq_some_iff.mp hk).1
    obtain ⟨m, hm⟩ : ∃ m, m = n.toNat := ⟨_, rfl⟩
    obtain ⟨b, hb⟩ : ∃ b, b = ow0.length + 1 := ⟨_, rfl⟩
    rw [← hm, ← hb]
    have h35 := sub3_len7 (n := n - 1) (by omega) (by omega)
    refine pbd_cons (st1 := gkS kp n F ow0.length none none none none none none none none none none none) (ow1 := lvO (ow0.set kp (.l ((gluZ n ps Gs).1.map D.int))) b n (gluZ n ps Gs).2 m) ?_ ?_
    · by_cases hw : nextV ps 2 = 1
      · unfold gluZ
        rw [if_pos hw]
        refine psd_ifT (bl := true) (ptd_eqB (ptd_eq (pd_ow (pd_cg C1 hr (Nat.le_refl _) (pad_cons (pd_var 0) (padd_cons pd_int padd_nil)) ⟨kp, 2, ps, rfl, lv_k0 hk, by decide, rfl, rfl⟩) (lv_sk0 hk)) pd_int) (by rw [iv_eq]; exact decide_eq_true hw)) rfl ?_
        obtain ⟨p1, hp1⟩ : ∃ p1, p1 = ps.dropLast := ⟨_, rfl⟩
        rw [← hp1]
        obtain ⟨p2, hp2⟩ : ∃ p2, p2 = p1.dropLast := ⟨_, rfl⟩
        obtain ⟨p3, hp3⟩ : ∃ p3, p3 = p2.dropLast := ⟨_, rfl⟩
        have hwr := nextV_rng p1 (show (0 : Int) < n by omega)
        obtain ⟨i, hi⟩ : ∃ i : Nat, nextV p1 n = (i : Int) := ⟨(nextV p1 n).toNat, by omega⟩
        have him : i < m := by omega
        have hx := nextV_rng p2 (show (0 : Int) < ((sub3 (rngZ (n - 1))).length : Int) by
          have h6 := (at_fact h5 h7).1
          have : sub3 (rngZ (n - 1)) ≠ [] := fun z => by
            have hq := mem_sub3 (n := n) (i := 0) (j := 1) (k := 2) (by omega) h7 (by omega) (by omega) (by omega) (by omega)
            have := (h6 _ hq 3 (mem_rngZ' (by omega) (by omega)) (by decide)).1
            rw [z] at this
            cases this
          have := List.length_pos_iff.mpr this
          omega)
        have hlt : (nextV p2 ((sub3 (rngZ (n - 1))).length : Int)).toNat < (sub3 (rngZ (n - 1))).length := by omega
        obtain ⟨q, hq0⟩ : ∃ q, q = spQ (n - 1) p2 := ⟨_, rfl⟩
        have hq : q ∈ sub3 (rngZ (n - 1)) := by
          rw [hq0]
          unfold spQ
          rw [List.getD_eq_getElem?_getD, List.getElem?_eq_getElem hlt]
          exact List.getElem_mem hlt
        have hat : atI ((sub3 (rngZ (n - 1))).map tupI) (nextV p2 ((sub3 (rngZ (n - 1))).length : Int)) = some (tupI q) := by
          rw [hq0]
          unfold atI ixN spQ
          rw [List.length_map, if_pos hx.1, if_pos hx.2]
          show ((sub3 (rngZ (n - 1))).map tupI)[(nextV p2 _).toNat]? = _
          rw [List.getElem?_map, List.getD_eq_getElem?_getD, List.getElem?_eq_getElem hlt]
          rfl
        rw [hi, ← hp2, ← hq0, ← hp3]
        have hb2 : ∀ a : OB, b = (ow0.set kp a).length + 1 := fun a => by rw [List.length_set]; exact hb
        have hkk : ∀ a : List Int, (ow0.set kp (.l (a.map D.int)))[kp]? = some (.l (a.map D.int)) := fun a => List.getElem?_set_self hkl
        have oS : ∀ (a c : List Int), (lvO (ow0.set kp (.l (a.map D.int))) b n Gs m).set kp (.l (c.map D.int)) = lvO (ow0.set kp (.l (c.map D.int))) b n Gs m := fun a c => by rw [lv_sk0 (hkk a), List.set_set]
        have oK : ∀ a : List Int, (lvO (ow0.set kp (.l (a.map D.int))) b n Gs m)[kp]? = some (.l (a.map D.int)) := fun a => lv_k0 (hkk a)
        have oR : ∀ a : List Int, (lvO (ow0.set kp (.l (a.map D.int))) b n Gs m)[ow0.length]? = some (.r (gsP b m)) := fun a => by
          have := lv_r0 (ow := ow0.set kp (.l (a.map D.int))) (b := b) (n := n) (Gs := Gs) (m := m)
          rwa [List.length_set] at this
        have oP : ∀ a : List Int, (lvO (ow0.set kp (.l (a.map D.int))) b n Gs m)[b + i]? = some (.t (tabI (tabF (n - 1) (Gs (i : Int))))) := fun a => lv_p0 (hb2 _) him
        refine pbd_weak (st1 := gkS kp n F ow0.length (some (.d (.int (i : Int)))) (some (.d (tupI q))) none none none none none none none none none) ?_ rfl (by (intro i r h; rcases i with _ | _ | _ | _ | _ | _ | _ | _ | _ | _ | _ | _ | _ | _ | _ | i <;> first | exact h | cases h))
        refine pbd_cons (psd_set 4 scGlu.nd (pd_eqD (pd_ow (pd_cg C1 hr (Nat.le_refl _) (pad_cons (pd_var 0) (padd_cons (pd_var 1) padd_nil)) ⟨kp, n, p1, rfl, oK p1, by omega, rfl, rfl⟩) (oS _ _)) (by rw [hi]))) ?_
        rw [← hp2]
        refine pbd_cons (psd_set 5 scGlu.nd (pd_ixL (pd_eqD (d' := .lst ((sub3 (rngZ (n - 1))).map tupI)) (pd_listT' (l := tabF (n - 1) (Gs (i : Int))) rfl mL (pd_ixR (j := b + i) (z := 0) (pd_var 3) (pd_var 4) (oR p2) (gsP_get him)) (oP p2)) (by unfold tabF; rw [List.map_map]; rfl))
          (pd_ow (pd_cg C1 hr (Nat.le_refl _) (pad_cons (pd_var 0) (padd_cons (pd_eqD (d' := .int ((sub3 (rngZ (n - 1))).length : Int)) (pd_lenOT (k := b + i) mN (pd_ixR (j := b + i) (z := 0) (pd_var 3) (pd_var 4) (oR p2) (gsP_get him)) (oP p2)) (by rw [tabI_len, tabF_len])) padd_nil)) ⟨kp, ((sub3 (rngZ (n - 1))).length : Int), p2, rfl, oK p2, by omega, rfl, rfl⟩) (oS _ _)) hat)) ?_
        rw [← hp3]
        refine pbd_cons (psd_ow (psd_putT (ns := q) (k := b + i) (gs := tabI (tabF (n - 1) (Gs (i : Int)))) hu (pd_sub (pd_mod (pd_int1 mI (padd_cons (pd_add (pd_add (pd_getO (k := b + i) hu (pd_ixR (j := b + i) (z := 0) (pd_var 3) (pd_var 4) (oR p3) (gsP_get him)) (pd_var 5) (oP p3) (lookI_some (lookI_F hq))) pd_int) (pd_ow (pd_cg C1 hr (Nat.le_refl _) (pad_cons (pd_var 0) (padd_cons pd_int padd_nil)) ⟨kp, 2, p3, rfl, oK p3, by decide, rfl, rfl⟩) (oS _ _))) padd_nil)) pd_int (by decide)) pd_int) (pd_ixR (j := b + i) (z := 0) (pd_var 3) (pd_var 4) (oR _) (gsP_get him)) (pd_var 5) (oP _) ?_) ?_) pbd_nil
        · rw [tabI_len, tabF_len]; omega
        · rw [tabI_put, putI_F hq]
          exact lv_sp0 (hb2 _) him _
      · unfold gluZ
        rw [if_neg hw]
        exact psd_ifF (bl := false) (ptd_eqB (ptd_eq (pd_ow (pd_cg C1 hr (Nat.le_refl _) (pad_cons (pd_var 0) (padd_cons pd_int padd_nil)) ⟨kp, 2, ps, rfl, lv_k0 hk, by decide, rfl, rfl⟩) (lv_sk0 hk)) pd_int) (by rw [iv_eq]; exact decide_eq_false hw)) rfl pbd_nil
    · have hG1 := gluZ_sgn (n := n) (ps := ps) hG
      have no1 : NoIow (ow0.set kp (.l ((gluZ n ps Gs).1.map D.int))) := noIow_set no
      have hl1 : (ow0.set kp (.l ((gluZ n ps Gs).1.map D.int))).length = ow0.length := List.length_set
      generalize ow0.set kp (.l ((gluZ n ps Gs).1.map D.int)) = ow1 at no1 hl1
      generalize (gluZ n ps Gs).2 = G1 at hG1
      rw [← hl1] at hkl hb ⊢
      clear hk hG no hl1 Gs
      have hGl := glu_sgn (n := n) hG1
      have nol := noIow_lv (b := b) (n := n) (Gs := G1) (m := m) no1
      refine pbd_drop (b := .l ((cns n (gluQ n G1)).map D.int)) ?_ rfl
      refine pbd_cons (psd_set 6 scGlu.nd pd_bl) ?_
      refine pbd_cons (psd_set 7 scGlu.nd (pd_lstO padd_nil)) ?_
      obtain ⟨kg, hkg⟩ : ∃ kg, kg = (lvO ow1 b n G1 m).length := ⟨_, rfl⟩
      have hkgl : kg = ow1.length + 1 + m := by rw [hkg, lv_len]
      rw [← hkg]
      refine pbd_cons (psd_forF [5] (sub3 (rngZ n)) tupI ((true, []) : Bool × List Int) (gluStep n G1) (fun s => gkS kp n F ow1.length none none (some (.d (.bl s.1))) (some (.own kg)) none none none none none none none) (fun s q => gkS kp n F ow1.length none (some (.d (tupI q))) (some (.d (.bl s.1))) (some (.own kg)) none none none none none none none) (fun s => lvO ow1 b n G1 m ++ [.l (s.2.map D.int)]) PassesOwn.never rfl
        (pid_eq (pid_list (pd_listDT (l := tabF n F) rfl mL (pd_var 2))) (by unfold tabF; rw [List.map_map]; rfl)) ⟨rfl, fun i r h => h⟩ rfl (fun l q r hl => pgd_name 5 scGlu.nd) (fun l q r hl => ?_)) ?_
      · have hq := (pre_mem hl).1
        have hll := (pre_mem hl).2.2
        have h35n := sub3_len7 (n := n) (by omega) h7
        have hgl : ((l.foldl (gluStep n G1) (true, [])).2).length = l.length := by rw [glu_fold]; simp
        generalize l.foldl (gluStep n G1) (true, []) = s0 at hgl
        obtain ⟨ag, gl⟩ := s0
        have hgl : gl.length = l.length := hgl
        obtain ⟨k8, hk8⟩ : ∃ k8, k8 = (lvO ow1 b n G1 m ++ [OB.l (gl.map D.int)]).length := ⟨_, rfl⟩
        have hk8l : k8 = kg + 1 := by rw [hk8, List.length_append, ← hkg]; rfl
        have htold := told_head (Gs := G1) h5 h7 hq
        have hsub := sub3_form (n := n) (by omega) h7 hq
        refine pbd_frz2B (ow1 := lvO ow1 b n G1 m ++ [.l (gl.map D.int)]) (b := .l ((toldZ n G1 q).map D.int)) (dd := .lstV ((toldZ n G1 q).map D.int)) (stB := gkS kp n F ow1.length none (some (.d (tupI q))) (some (.d (.bl ag))) (some (.own kg)) (some (.own k8)) none none none none none none)
          (psd_set 8 scGlu.nd (pd_lstO padd_nil)) ?_ rfl .v ?_
        · rw [← hk8]
          have hend : (rngZ n).foldl (tldStep G1 q) [] = toldZ n G1 q := by rw [tld_fold]; rfl
          rw [← hend]
          refine psd_nx (psd_forF [9] (rngZ n) D.int ([] : List Int) (tldStep G1 q) (fun _ => gkS kp n F ow1.length none (some (.d (tupI q))) (some (.d (.bl ag))) (some (.own kg)) (some (.own k8)) none none none none none none) (fun _ x => gkS kp n F ow1.length none (some (.d (tupI q))) (some (.d (.bl ag))) (some (.own kg)) (some (.own k8)) (some (.d (.int x))) none none none none none) (fun s => (lvO ow1 b n G1 m ++ [.l (gl.map D.int)]) ++ [.l (s.map D.int)]) PassesOwn.never rfl
            (pid_eq (pid_range1 mR (padd_cons (pd_var 1) padd_nil) (by omega)) (rngD_Z n)) ⟨rfl, fun i r h => h⟩ rfl (fun l x r hl => pgd_name 9 scGlu.nd) (fun l2 x r hl2 => ?_)) rfl rfl
          obtain ⟨hx, hlt⟩ := rngZ_at hl2
          have hxm := (pre_mem hl2).1
          have htl : (l2.foldl (tldStep G1 q) []).length ≤ l2.length := by
            rw [tld_fold, List.nil_append, List.length_map]
            exact List.length_filter_le _ _
          generalize l2.foldl (tldStep G1 q) [] = tl at htl
          unfold tldStep
          by_cases hxq : x ∈ q
          · rw [if_pos hxq]
            exact pbd_weak (st1 := gkS kp n F ow1.length none (some (.d (tupI q))) (some (.d (.bl ag))) (some (.own kg)) (some (.own k8)) (some (.d (.int x))) none none none none none) (pbd_skip (ptd_notIn (pd_var 9) (pd_var 5) rfl) (by simpa using hxq) pbd_nil) rfl (by (intro i r h; rcases i with _ | _ | _ | _ | _ | _ | _ | _ | _ | _ | _ | _ | _ | _ | _ | i <;> first | exact h | cases h))
          · rw [if_neg hxq]
            have hmem := ((at_fact h5 h7).1 q hq x hxm hxq).1
            have hq3 : q.length ≤ 3 := by
              obtain ⟨a, b, c, rfl, _⟩ := hsub
              exact Nat.le_refl _
            refine pbd_weak (st1 := gkS kp n F ow1.length none (some (.d (tupI q))) (some (.d (.bl ag))) (some (.own kg)) (some (.own k8)) (some (.d (.int x))) none (some (.d (tupI (atZ x q)))) none none none) (pbd_cons (psd_ifT (bl := true) (ptd_eqB (ptd_notIn (ns := q) (pd_var 9) (pd_var 5) rfl) (by simpa using hxq)) rfl ?_) pbd_nil) rfl (by (intro i r h; rcases i with _ | _ | _ | _ | _ | _ | _ | _ | _ | _ | _ | _ | _ | _ | _ | i <;> first | exact h | cases h))
            refine pbd_cons (psd_set 11 scGlu.nd (pd_eqD (d' := tupI (atZ x q)) (pd_tupleL mT (padd_cons (pd_lc (own := [("_law_line", 10)]) q D.int (fun y => gkS kp n F ow1.length none (some (.d (tupI q))) (some (.d (.bl ag))) (some (.own kg)) (some (.own k8)) (some (.d (.int x))) (some (.d (.int y))) none none none none) (fun _ => true) (fun y => .int (y - (if decide (x < y) = true then 1 else 0)))
              rfl scGlu.nd (pid_tup (pd_var 5)) (blkOk_by (N := nGlu) (sc := defScope sGlu) (by decide +kernel)) (by omega) (fun y hy _ H C' cl fp => pgd_name 10 scGlu.nd) (fun y hy l _ H C' cl fp => ptsd_nil) (fun y hy _ l _ H C' cl fp => pd_sub (pd_var 10) (pd_intB mI (padd_cons (pd_gt (pd_var 10) (pd_var 9)) padd_nil)))) padd_nil)) (by rw [List.filter_eq_self.mpr (fun _ _ => rfl)]; unfold atZ tupI; rw [List.map_map]; rfl))) ?_
            refine pbd_cons (psd_expr (pd_ow (pd_append (pd_var 8) (pd_getO (ns := atZ x q) (k := b + l2.length) (gs := tabI (tabF (n - 1) (G1 x))) hu (pd_ixR (m := l2.length) (j := b + l2.length) (z := 0) (pd_var 3) (pd_eqD (pd_var 9) (by rw [hx])) (by rw [List.append_assoc]; exact lv_r) (gsP_get (by omega))) (pd_var 11) (by rw [List.append_assoc, lv_p hb (by omega), ← hx]; rfl) (lookI_some (lookI_F hmem))) ⟨_, app_get' hk8⟩ (app_get' hk8) (by rw [List.length_map]; omega)) ?_)) pbd_nil
            rw [set_last' hk8, List.map_append]
            rfl
        · rw [← hk8]
          have eU : unD k8 (D.lstV ((toldZ n G1 q).map D.int)) (gkS kp n F ow1.length none (some (.d (tupI q))) (some (.d (.bl ag))) (some (.own kg)) (some (.own k8)) none none none none none none) = gkS kp n F ow1.length none (some (.d (tupI q))) (some (.d (.bl ag))) (some (.own kg)) (some (.d (.lstV ((toldZ n G1 q).map D.int)))) none none none none none none := by
            show [(if kp = k8 then _ else _), _, _, (if ow1.length = k8 then _ else _), _, _, _, (if kg = k8 then _ else _), (if k8 = k8 then _ else _), _, _, _, _, _, _] = _
            rw [if_neg (by omega), if_neg (by omega), if_neg (by omega), if_pos rfl]
          rw [eU]
          have hi0 : atI ((toldZ n G1 q).map D.int) 0 = some (.int (gluQ n G1 q)) := atI_nat (j := 0) (by rw [List.getElem?_map, htold]; rfl)
          refine pbd_cons (psd_expr (pd_ow (pd_append (pd_var 7) (pd_ixL (pd_lstW (pd_var 8)) pd_int hi0) ⟨_, app_get' hkg⟩ (app_get' hkg) (by rw [List.length_map]; omega)) (set_last' hkg))) ?_
          have eG : (gluStep n G1 (ag, gl) q) = (ag && agrQ n G1 q, gl ++ [gluQ n G1 q]) := rfl
          rw [eG]
          have eO : ∀ v : Int, (gl.map D.int ++ [D.int v]) = (gl ++ [v]).map D.int := fun v => by rw [List.map_append]; rfl
          rw [eO]
          have cond : ∀ {Y : Cx} {st : Sta} {ow : List OB} {a b : Expr} {pos : Pos}, PD Y st ow a (.d (.int ((toldZ n G1 q).count (gluQ n G1 q) : Nat))) ow → PD Y st ow b (.d (.int (((toldZ n G1 q).map D.int).length : Int))) ow → PTD Y st ow (.Compare a [.NotEq] [b] pos) (!agrQ n G1 q) ow := fun h1 h2 => ptd_eqB (ptd_ne h1 h2) (by rw [iv_eq, List.length_map]; rfl)
          refine pbd_weak (st1 := gkS kp n F ow1.length none (some (.d (tupI q))) (some (.d (.bl (ag && agrQ n G1 q)))) (some (.own kg)) (some (.d (.lstV ((toldZ n G1 q).map D.int)))) none none none none none none) (pbd_cons (psd_if (bl := !agrQ n G1 q) (cond (pd_lcount (pd_var 8) (pd_ixL (pd_lstW (pd_var 8)) pd_int hi0)) (pd_lenL mN (padd_cons (pd_lstW (pd_var 8)) padd_nil))) (fun hb => ?_) (fun hb => ?_)) pbd_nil) rfl (by (intro i r h; rcases i with _ | _ | _ | _ | _ | _ | _ | _ | _ | _ | _ | _ | _ | _ | _ | i <;> first | exact h | cases h))
          · have hb : agrQ n G1 q = false := by simpa using hb
            rw [hb, Bool.and_false]
            exact pbd_cons (psd_set 6 scGlu.nd pd_bl) pbd_nil
          · have hb : agrQ n G1 q = true := by simpa using hb
            rw [hb, Bool.and_true]
            exact pbd_nil
      · rw [glu_fold, Bool.true_and, List.nil_append]
        show PBD _ (gkS kp n F ow1.length none none (some (.d (.bl ((sub3 (rngZ n)).all (agrQ n G1))))) (some (.own kg)) none none none none none none none) (lvO ow1 b n G1 m ++ [.l ((cns n (gluQ n G1)).map D.int)]) _ _
        have no2 : NoIow (lvO ow1 b n G1 m ++ [.l ((cns n (gluQ n G1)).map D.int)]) := fun z hz => by
          rcases List.mem_append.mp hz with z' | z'
          · exact nol z z'
          · rw [List.mem_singleton.mp z']; exact noIs_ints _
        generalize hG2 : gluQ n G1 = G at *
        refine pbd_cons (psd_set 12 scGlu.nd (pd_make M GI (hr.mono hki) mC bI (pad_cons (pd_var 1) (pad_cons (pd_var 7) pad_nil)) ⟨n, .own kg, cns n G, rfl, .inl ⟨kg, rfl, app_get' hkg⟩, by omega, by omega, by unfold cns; rw [List.length_map], fun v hv => by
          obtain ⟨p, _, rfl⟩ := List.mem_map.mp hv
          exact hGl p, no2, rfl, rfl⟩)) ?_
        refine pbd_cons (psd_set 13 scGlu.nd pd_bl) ?_
        refine pbd_cons (psd_forF [9] (rngZ n) D.int true (samStep n G1) (fun s => gkS kp n F ow1.length none none (some (.d (.bl ((sub3 (rngZ n)).all (agrQ n G1))))) (some (.own kg)) none none none none (some (.d (chartD C n (cns n G)))) (some (.d (.bl s))) none) (fun s x => gkS kp n F ow1.length none none (some (.d (.bl ((sub3 (rngZ n)).all (agrQ n G1))))) (some (.own kg)) none (some (.d (.int x))) none none (some (.d (chartD C n (cns n G)))) (some (.d (.bl s))) none) (fun _ => lvO ow1 b n G1 m ++ [.l ((cns n G).map D.int)]) PassesOwn.never rfl
          (pid_eq (pid_range1 mR (padd_cons (pd_var 1) padd_nil) (by omega)) (rngD_Z n)) ⟨rfl, fun i r h => h⟩ rfl (fun l x r hl => pgd_name 9 scGlu.nd) (fun l x r hl => ?_)) ?_
        · obtain ⟨hx, hlt⟩ := rngZ_at hl
          have hxm := (pre_mem hl).1
          generalize l.foldl (samStep n G1) true = sm
          have hln := others_lenE (n := n) (by omega) h7 hxm
          have hne : othersZ n x ≠ [] := fun z => by rw [z] at hln; simp at hln; omega
          refine pbd_cons (psd_set 14 scGlu.nd (pd_make M GI (hr.mono hki) mC bI (padd_cons (pd_sub (pd_var 1) pd_int) (padd_cons (pd_cgWL C2 hr (Nat.le_refl _) (ns := cns (n - 1) (G1 x)) (rs := [.d (.int (n - 1)), .own (b + l.length)]) (rs' := [.d (.int (n - 1)), .d (tabD' (n - 1) (G1 x))]) (pad_cons (pd_sub (pd_var 1) pd_int) (pad_cons (pd_ixR (m := l.length) (j := b + l.length) (z := 0) (pd_var 3) (pd_eqD (pd_var 9) (by rw [hx])) lv_r (gsP_get (by omega))) pad_nil)) (.d (.t (by rw [lv_p hb (by omega), ← hx]; rfl) .nil)) ⟨n - 1, G1 x, rfl, by omega, by omega, rfl, rfl⟩) padd_nil)) ⟨n - 1, .d (.lst ((cns (n - 1) (G1 x)).map D.int)), cns (n - 1) (G1 x), rfl, .inr ⟨false, rfl⟩, by omega, by omega, by unfold cns; rw [List.length_map], fun v hv => by
            obtain ⟨p, _, rfl⟩ := List.mem_map.mp hv
            exact hG1 x p, no2, rfl, rfl⟩)) ?_
          have hps := part_spec (C := C) (t := false) (F := G) (lot := othersZ n x) (qs := othersZ n x) (lvO ow1 b n G1 m ++ [.l ((cns n G).map D.int)]) (by omega) h7 hGl (others_A h7) (.refl _) hne no2
          rw [hln] at hps
          refine pbd_weak (st1 := gkS kp n F ow1.length none none (some (.d (.bl ((sub3 (rngZ n)).all (agrQ n G1))))) (some (.own kg)) none (some (.d (.int x))) none none (some (.d (chartD C n (cns n G)))) (some (.d (.bl (samStep n G1 sm x)))) (some (.d (chartD C (n - 1) (cns (n - 1) (G1 x)))))) (pbd_cons (psd_if (bl := !samB n G1 x) (ptd_not (ptd_eqI (bl := samB n G1 x) EQ heq hef bE (hr.mono hke) (pd_mt M1 (pd_var 12) T.cl hr (Nat.le_refl _) (padd_cons (pd_eqD (d' := .lst ((othersZ n x).map D.int)) (pd_lc (own := [("_law_line", 10)]) (rngZ n) D.int (fun y => gkS kp n F ow1.length none none (some (.d (.bl ((sub3 (rngZ n)).all (agrQ n G1))))) (some (.own kg)) none (some (.d (.int x))) (some (.d (.int y))) none (some (.d (chartD C n (cns n G)))) (some (.d (.bl sm))) (some (.d (chartD C (n - 1) (cns (n - 1) (G1 x)))))) (fun y => !decide (V.int y = V.int x)) D.int
            rfl scGlu.nd (pid_eq (pid_range1 mR (padd_cons (pd_var 1) padd_nil) (by omega)) (rngD_Z n)) (blkOk_by (N := nGlu) (sc := defScope sGlu) (by decide +kernel)) (by rw [rngZ_len]; omega) (fun y hy _ H C' cl fp => pgd_name 10 scGlu.nd) (fun y hy l _ H C' cl fp => ptsd_one (ptd_ne (pd_var 10) (pd_var 9))) (fun y hy _ l _ H C' cl fp => pd_var 10)) rfl) padd_nil) (chF_no n _ np1 np2 np3 np4) hps) (pd_var 14) ⟨n - 1, n - 1, _, _, rfl, by unfold samB; rw [hG2]; simp, rfl⟩)) (fun hb => ?_) (fun hb => ?_)) pbd_nil) rfl (by (intro i r h; rcases i with _ | _ | _ | _ | _ | _ | _ | _ | _ | _ | _ | _ | _ | _ | _ | i <;> first | exact h | cases h))
          · have hb : samB n G1 x = false := by simpa using hb
            unfold samStep
            rw [hb, Bool.and_false]
            exact pbd_cons (psd_set 13 scGlu.nd pd_bl) pbd_nil
          · have hb : samB n G1 x = true := by simpa using hb
            unfold samStep
            rw [hb, Bool.and_true]
            exact pbd_nil
        · rw [sam_fold, Bool.true_and]
          have he := glue_eq (Gs := G1) h5 h7
          refine pbd_last (psd_ret (pd_eqB (pd_eq (pd_var 13) (pd_var 6)) ?_))
          have he : (rngZ n).all (samB n G1) = (sub3 (rngZ n)).all (agrQ n G1) := he
          rw [he]
          simp
end
end Bl
set_option Elab.async false
set_option linter.all false
set_option maxRecDepth 100000
set_option maxHeartbeats 4000000
namespace Bl
open PySem PySem.Spec PyProof.Rows L2
/-! ### own exceptions: raised, let out, caught -/
abbrev GX := List R → List OB → D → List OB → Prop
abbrev xdF (fld : Str) (v : V) : HO := .xd [(fld, v)]
/-- an own exception class of one field -/
structure XN where
  cls : Addr
  fld : Str
def tRzG (K : PySem.W.Frag) (n : XN) (W : WX) (st : Sta) (ow : List OB) (d : D) (st' : Sta) (ow' : List OB) : TS := fun _ σ H => ∃ S, Slots K S H σ st ∧ Owns K S H ow ∧ ∀ S' σ' u H' dd, Fwd S H S' H' → Slots K S' H' σ' st' → Owns K S' H' ow' → Den K S' H' u d → H' dd = none → W (.ref n.cls) (some dd) σ' (upd H' dd (xdF n.fld u))
def tXG (K : PySem.W.Frag) (n : XN) (W : WX) (st : Sta) (ow : List OB) (d : D) (ow' : List OB) : TE := fun σ H _ => ∃ S, Slots K S H σ st ∧ Owns K S H ow ∧ ∀ S' u H' dd, Fwd S H S' H' → Owns K S' H' ow' → Den K S' H' u d → H' dd = none → W (.ref n.cls) (some dd) σ (upd H' dd (xdF n.fld u))
abbrev PXE (X : Cx) (n : XN) (W : WX) (st : Sta) (ow : List OB) (e : Expr) (d : D) (ow' : List OB) : Prop := PE X e (tXG X.K n W st ow d ow')
abbrev PXS (X : Cx) (n : XN) (W : WX) (st : Sta) (ow : List OB) (s : Stmt) (d : D) (st' : Sta) (ow' : List OB) : Prop := PS X s (tRzG X.K n W st ow d st' ow')
abbrev PXB (X : Cx) (n : XN) (W : WX) (st : Sta) (ow : List OB) (ss : List Stmt) (d : D) (st' : Sta) (ow' : List OB) : Prop := PSs X ss (tRzG X.K n W st ow d st' ow')
def spR (K : PySem.W.Frag) (n : XN) (g : GX) : Sp := fun vs H _ E => ∃ S rs ow d ow', DenRs K S H vs rs ∧ Owns K S H ow ∧ g rs ow d ow' ∧ ∀ S' u H' dd, Fwd S H S' H' → Owns K S' H' ow' → Den K S' H' u d → H' dd = none → E (.ref n.cls) (some dd) (upd H' dd (xdF n.fld u))
theorem okR {P : Program} {w : World} {K : PySem.W.Frag} {mg : Str → Option Value} {base : Heap} {xn qual : Str} {sst : Stmt} {f : Addr} {fd : FuncData} {N ps : List Str} {k : Nat} {n : XN} {g : GX} (F : Fun K xn qual sst f fd) (SC : FnScope N ps (defScope sst)) (len : ∀ rs ow d ow', g rs ow d ow' → rs.length = ps.length)
    (hbody : ∀ (cdv : Value) (A : Around) (outer : List Env) (s : Shared) (H : Hp) (E : XK), Room k (A.deeper (envOfC qual (defScope sst) s.heap.objs.size f cdv)) → ∀ rs ow d ow', g rs ow d ow' →
      ∃ st', PXB (cxOf (L2.CX P w) P w K mg base N qual (defScope sst) f cdv A outer s H E) n (fun cls d _ H => E cls d H) (startD N rs) ow (defBody sst) d st' ow') : FnOk P w K mg base (L2.CX P w) (k + 1) f fd ps (spR K n g) := by
  refine F.okX SC (fun vs H Q E h => ?_) (fun cdv A outer s H vs Q E hr h => ?_)
  · obtain ⟨S, rs, ow, d, ow', h1, _, h3, _⟩ := h
    rw [h1.length, len _ _ _ _ h3]
  · obtain ⟨S, rs, ow, d, ow', h1, h2, h3, q⟩ := h
    obtain ⟨st', hb⟩ := hbody cdv A outer s H E hr rs ow d ow' h3
    exact ⟨_, hb, S, start_slots h1, h2, fun S' σ' u H' dd f1 _ o dn hn => q S' u H' dd f1 o dn hn⟩
def FgX (P : Program) (w : World) (K : PySem.W.Frag) (mg : Str → Option Value) (base : Heap) (xn : Str) (k : Nat) (ps : List Str) (n : XN) (g : GX) : Prop :=
  ∃ f fd, FnOk P w K mg base (L2.CX P w) k f fd ps (spR K n g) ∧ mg xn = some (.ref f) ∧ PySem.W.keepIn K (.ref f) = true ∧ Binds K fd ps []
def MtX (P : Program) (w : World) (K : PySem.W.Frag) (mg : Str → Option Value) (base : Heap) (C : Addr) (mn : Str) (k : Nat) (ps : List Str) (n : XN) (g : GX) : Prop :=
  ∃ f fd, FnOk P w K mg base (L2.CX P w) k f fd ps (spR K n g) ∧ Meth K C mn f ∧ Binds K fd ps []
theorem FgX.up {P : Program} {w : World} {K : PySem.W.Frag} {mg : Str → Option Value} {base : Heap} {xn : Str} {j k : Nat} {ps : List Str} {n : XN} {g : GX} (F : FgX P w K mg base xn j ps n g) (h : j ≤ k) : FgX P w K mg base xn k ps n g := by
  obtain ⟨f, fd, a, b, c, d⟩ := F
  exact ⟨f, fd, a.mono h, b, c, d⟩
theorem MtX.up {P : Program} {w : World} {K : PySem.W.Frag} {mg : Str → Option Value} {base : Heap} {C : Addr} {xn : Str} {j k : Nat} {ps : List Str} {n : XN} {g : GX} (F : MtX P w K mg base C xn j ps n g) (h : j ≤ k) : MtX P w K mg base C xn k ps n g := by
  obtain ⟨f, fd, a, b, c⟩ := F
  exact ⟨f, fd, a.mono h, b, c⟩
section
variable {X : Cx} {n : XN} {W : WX} {e c o : Expr} {es : List Expr} {st st1 st2 st' : Sta} {ow ow1 ow2 ow3 : List OB} {rs : List R} {d : D} {k j : Nat} {ps : List Str} {g : GX} {xn mn : Str} {p pos apos : Pos} {tb eb rest : List Stmt} {s : Stmt} {bl : Bool}
theorem pxe_call (F : FgX X.prog X.w X.K X.mg X.base xn k ps n g) (hr : Room j X.A) (hj : k ≤ j) (tk : Takes X W) (ha : PAD X st ow (e :: es) rs ow1) (hgg : g rs ow1 d ow2) (hg : Gl X xn := by rfl) (hdb : (xn == ("__debug__" : Str)) = false := by decide)
    (he : starEach (e :: es) X.env = (false, eval e X.env) :: starEach es X.env := by rfl) (hpl : (backTo pos (starEach es X.env)).any (·.1) = false := by rfl) : PXE X n W st ow (.Call (.Name xn p) (e :: es) [] pos) d ow2 := by
  obtain ⟨f, fd, h1, hm, hk, hbd⟩ := F
  exact (pe_callS h1 (hr.mono hj) hg hm hk hbd (fun σ => passAt tk σ) ha hdb he hpl).imp fun σ H Q ⟨S, sl, o, q⟩ => ⟨S, sl, o, fun S1 vs H1 f1 o1 d1 => ⟨S1, rs, ow1, d, ow2, d1, o1, hgg, fun S' u H' dd f2 o2 dn hn => q S' u H' dd (f1.trans o1 f2) o2 dn hn⟩⟩
def tMethX (C : Addr) (m : Str) (sp : Sp) (E : L2.St → XK) (ta : TE) (t : TA) : TE := fun σ H Q => ta σ H fun x H1 => ∃ a dx fs, x = .ref a ∧ H1 a = some (.ins C dx fs) ∧ fs.lookup m = none ∧ t σ H1 fun vs H2 => sp (.ref a :: vs) H2 Q (E σ)
theorem pe_methX {CX : CXT} {f C : Addr} {fd : FuncData} {sp : Sp} {E : L2.St → XK} {ta : TE} {t : TA} {pl : Sem Bool} (ho : PE X o ta) (c : Cls X.K C) (hm : Meth X.K C mn f) (F : FnOk X.prog X.w X.K X.mg X.base CX k f fd ps sp) (hr : Room k X.A) (hb : Binds X.K fd ps []) (hx : ∀ σ, PassesAt CX X σ (E σ)) (ha : PA X (e :: es) t)
    (hst : starEach (e :: es) X.env = (false, eval e X.env) :: starEach es X.env) (hpl : (backTo pos (starEach es X.env)).any (·.1) = false)
    (ht : eval (.Call (.Attribute o mn apos) (e :: es) [] pos) X.env = (do
      let ov ← eval o X.env
      standAt apos.atName
      let (f, first) ← holding [ov] (getMethod ov mn pl)
      callWith pos f first (backTo pos (starEach (e :: es) X.env)) (backToKw pos (keywordEach [] X.env)))) : PE X (.Call (.Attribute o mn apos) (e :: es) [] pos) (tMethX C mn sp E ta t) := by
  refine ⟨fun pins s σ H Q I h0 => ?_⟩
  refine PySem.W.methodCall_KW (pl := pl) (thn (ho.run pins s σ H _ I h0) fun v s1 ⟨x, H1, I1, rel, a, dx, fs, eq, at1, lk, q1⟩ => ?_) ht
  subst eq
  obtain rfl : v = Value.ref a := rel
  refine getmeth_ok I1 at1 c hm lk ?_
  refine PySem.W.callWith_K (first := [.ref a]) (h₀ := X.base) I.ok.mod.kin hm.kp (thn (ha.run pos pins s1 σ H1 _ I1 q1) fun vs s2 ⟨ws, H2, I2, rv, q2⟩ => ⟨I2.kIn, ?_⟩) hst hpl
  exact run_fnS (us := .ref a :: vs) (vs := .ref a :: ws) F hr hb (hx σ) I2 (.cons rfl rv) q2
theorem pxe_mt {C : Addr} {gs : List (Str × D)} {pl : Sem Bool} (F : MtX X.prog X.w X.K X.mg X.base C mn k ps n g) (ho : PD X st ow o (.d (.ins C gs)) ow1) (c : Cls X.K C) (hr : Room j X.A) (hj : k ≤ j) (tk : Takes X W) (ha : PAD X st ow1 (e :: es) rs ow2) (hl : gs.lookup mn = none) (hgg : g (.d (.ins C gs) :: rs) ow2 d ow3)
    (hst : starEach (e :: es) X.env = (false, eval e X.env) :: starEach es X.env := by rfl) (hpl : (backTo pos (starEach es X.env)).any (·.1) = false := by rfl)
    (ht : eval (.Call (.Attribute o mn apos) (e :: es) [] pos) X.env = (do
      let ov ← eval o X.env
      standAt apos.atName
      let (f, first) ← holding [ov] (getMethod ov mn pl)
      callWith pos f first (backTo pos (starEach (e :: es) X.env)) (backToKw pos (keywordEach [] X.env))) := by rfl) : PXE X n W st ow (.Call (.Attribute o mn apos) (e :: es) [] pos) d ow3 := by
  obtain ⟨f, fd, h1, h2, h3⟩ := F
  exact (pe_methX ho c h2 h1 (hr.mono hj) h3 (fun σ => passAt tk σ) ha hst hpl ht).imp fun σ H Q ⟨S, sl, o, q⟩ => ⟨S, sl, o, fun S1 v H1 f1 o1 d1 => by
    cases d1 with
    | d d1 =>
      obtain ⟨a, dx, fs, rfl, _, h1, h2⟩ := den_ins d1
      exact ⟨a, dx, fs, rfl, h1, (flds_look h2).2 hl, S1, f1.slots sl, o1, fun S2 vs H2 f2 o2 d2 => ⟨S2, _, ow2, d, ow3, .cons (.d (f2.den d1)) d2, o2, hgg, fun S' u H' dd f3 o3 dn hn => q S' u H' dd (f1.trans o1 (f2.trans o2 f3)) o3 dn hn⟩⟩⟩
theorem pxs_expr (h : PXE X n W st ow e d ow1) (hs : swapsWith e none pos.line X.env = pure false := by rfl) : PXS X n W st ow (.Expr e pos) d st ow1 := (ps_expr h hs).imp fun D σ H ⟨S, sl, o, q⟩ => ⟨S, sl, o, fun S' u H' dd f o' dn hn => q S' σ u H' dd f (f.slots sl) o' dn hn⟩
theorem pxs_ret (h : PXE X n W st ow e d ow1) : PXS X n W st ow (.Return (some e) pos) d st ow1 := (ps_ret h).imp fun D σ H ⟨S, sl, o, q⟩ => ⟨S, sl, o, fun S' u H' dd f o' dn hn => q S' σ u H' dd f (f.slots sl) o' dn hn⟩
theorem pxs_set {x : Str} {pos' : Pos} (i : Nat) (hN : X.N.Nodup) (h : PXE X n W st ow e d ow1) (hi : X.N[i]? = some x := by rfl) (hx : Loc X.env.scope x := by first | exact Or.inl rfl | exact Or.inr rfl) (hs : swapsWith e (some (.Name x pos')) pos.line X.env = pure false := by rfl)
    (hf : X.fn x = true ∨ X.env.scope.names.lookup x = some .local := by first | exact .inl rfl | exact .inr rfl | assumption) : PXS X n W st ow (.Assign [.Name x pos'] e pos) d st ow1 := (ps_set hN hi hx h hs hf).imp fun D σ H ⟨S, sl, o, q⟩ => ⟨S, sl, o, fun S' u H' dd f o' dn hn => q S' σ u H' dd f (f.slots sl) o' dn hn⟩
def tMkG (n : XN) (ta : TA) : L2.St → Hp → XK → Prop := fun σ H Q => ta σ H fun vs H1 => ∃ v, vs = [v] ∧ ∀ d, H1 d = none → Q (.ref n.cls) (some d) (upd H1 d (xdF n.fld v))
theorem pxs_raise (hc : X.calm = true) (tk : Takes X W) (hmk : PMk X e (tMkG n (tDA X.K st ow [.d d] ow1))) : PXS X n W st ow (.Raise (some e) none pos) d st ow1 :=
  (ps_raise hc tk hmk).imp fun D σ H ⟨S, sl, o, q⟩ => ⟨S, sl, o, fun S1 vs H1 f1 o1 d1 => by
    cases d1 with
    | cons h t =>
      cases t
      cases h with
      | d h => exact ⟨_, rfl, fun dd hd => q S1 σ _ H1 dd f1 (f1.slots sl) o1 h hd⟩⟩
theorem psx_cons (h1 : PSD X st ow s (.nx st1 ow1)) (h : PXB X n W st1 ow1 rest d st' ow2) : PXB X n W st ow (s :: rest) d st' ow2 :=
  (pss_cons h1 h).imp fun _ σ H ⟨S, sl, o, q⟩ => ⟨S, sl, o, fun S1 σ1 H1 f1 sl1 o1 => ⟨S1, sl1, o1, fun S2 σ2 v H2 dd f2 sl2 o2 d2 hd => q S2 σ2 v H2 dd (f1.trans o1 f2) sl2 o2 d2 hd⟩⟩
theorem psx_last (h : PXS X n W st ow s d st' ow2) : PXB X n W st ow (s :: rest) d st' ow2 :=
  (pss_cons h never_ss).imp fun _ σ H ⟨S, sl, o, q⟩ => ⟨S, sl, o, q⟩
theorem pxs_ifT (hc : PTD X st ow c bl ow1) (hb : bl = true) (h : PXB X n W st ow1 tb d st' ow2) : PXS X n W st ow (.If c tb eb pos) d st' ow2 := by
  subst hb
  exact (ps_if hc h never_ss).imp fun _ σ H ⟨S, sl, o, q⟩ => ⟨S, sl, o, fun S1 H1 f1 o1 => iteT ⟨S1, f1.slots sl, o1, fun S2 σ2 v H2 dd f2 sl2 o2 d2 hd => q S2 σ2 v H2 dd (f1.trans o1 f2) sl2 o2 d2 hd⟩⟩
theorem pxs_ifF (hc : PTD X st ow c bl ow1) (hb : bl = false) (h : PXB X n W st ow1 eb d st' ow2) : PXS X n W st ow (.If c tb eb pos) d st' ow2 := by
  subst hb
  exact (ps_if hc never_ss h).imp fun _ σ H ⟨S, sl, o, q⟩ => ⟨S, sl, o, fun S1 H1 f1 o1 => iteF ⟨S1, f1.slots sl, o1, fun S2 σ2 v H2 dd f2 sl2 o2 d2 hd => q S2 σ2 v H2 dd (f1.trans o1 f2) sl2 o2 d2 hd⟩⟩
theorem psx_skip (hc : PTD X st ow c bl ow1) (hb : bl = false) (h : PXB X n W st ow1 rest d st' ow2) : PXB X n W st ow (.If c tb [] pos :: rest) d st' ow2 := by
  subst hb
  exact psx_cons (psd_if (out := .nx st ow1) hc (fun z => nomatch z) (fun _ => pbd_nil)) h
theorem psx_weak (h : PXB X n W st ow tb d st1 ow2) (hl : st1.length = st'.length) (hk : ∀ (i : Nat) r, st'[i]? = some (some r) → st1[i]? = some (some r)) : PXB X n W st ow tb d st1 ow2 := h
/-! a for that lets an exception out of its turn m -/
def fXS (K : PySem.W.Frag) (n : XN) (W : WX) (stm : Nat → Sta) (Io : Nat → List OB) (oo : Nat → Out) (xs : List D) (m : Nat) (d : D) (st' : Sta) (ow' : List OB) : TS := fun E σ H => ∃ i : FIx xs (some m), (if i.1.1 = m then tRzG K n W (stm m) (Io m) d st' ow' else tDS K (stm i.1.1) (Io i.1.1) (oo i.1.1)) E σ H
theorem pxs_for {tg iter : Expr} {body : List Stmt} {xs : List D} {dd : D} (vs : List Nat) (Iv : Nat → Sta) (Io : Nat → List OB) (m : Nat) (stm : Nat → Sta) (oo : Nat → Out) (hp : PassesOwn (model X.prog X.w) X.A X.env X.xe) (hc : X.calm = true) (hi : PID X st ow tg iter xs ow1)
    (h0 : st.length = (Iv 0).length ∧ ∀ (i : Nat) r, (Iv 0)[i]? = some (some r) → st[i]? = some (some r)) (h0o : Io 0 = ow1)
    (hg : ∀ i d, xs[i]? = some d → i ≤ m → PGD X vs (Iv i) d tg (stm i))
    (hb : ∀ i d, xs[i]? = some d → i < m → PBD X (stm i) (Io i) body (oo i)) (hbm : ∀ d, xs[m]? = some d → PXB X n W (stm m) (Io m) body dd st' ow2)
    (ho : ∀ i, i < m → Onw Iv Io i (oo i)) (hm : m < xs.length)
    (hs : ∀ x, foldedSetIterable iter X.env x = pure x := by intro _; rfl) : PXS X n W st ow (.For tg iter body [] pos) dd st' ow2 := by
  have hbody : ∀ i : FIx xs (some m), PSs X body (if i.1.1 = m then tRzG X.K n W (stm m) (Io m) dd st' ow2 else tDS X.K (stm i.1.1) (Io i.1.1) (oo i.1.1)) := fun i => by
    by_cases h : i.1.1 = m
    · rw [if_pos h]
      exact hbm i.1.2 (by have z := i.2.1; rwa [h] at z)
    · rw [if_neg h]
      exact hb i.1.1 i.1.2 i.2.1 (by have := i.2.2 m rfl; omega)
  refine (ps_for (g := fTG X.K vs Iv stm xs (some m)) (tb := fXS X.K n W stm Io oo xs m dd st' ow2) hp hc hi (pg_ex (ι := FIx xs (some m)) fun i => hg i.1.1 i.1.2 i.2.1 (i.2.2 m rfl)) (pss_ex (ι := FIx xs (some m)) hbody) hs).imp fun E σ H ⟨S, sl, o, q⟩ => ?_
  refine ⟨S, sl, o, fun S1 H1 J f1 o1 w1 => ?_⟩
  refine for_it (D := E) (g := fTG X.K vs Iv stm xs (some m)) (tb := fXS X.K n W stm Io oo xs m dd st' ow2) w1 (fun i σ' H' => i ≤ m ∧ ∃ S', Fwd S1 H1 S' H' ∧ Slots X.K S' H' σ' (Iv i) ∧ Owns X.K S' H' (Io i)) ⟨Nat.zero_le m, S1, .refl S1 H1, (f1.slots sl).weak h0.1 h0.2, by rw [h0o]; exact o1⟩ (fun i σ' H' hi ⟨_, S', f', _, o'⟩ => ⟨S', _, f', o'⟩) (fun i x σ' H' H2 hi ⟨hle, S', f', sl', o'⟩ ⟨ex, y⟩ => ?_) (fun σ' H' ⟨hle, _⟩ => ?_)
  · obtain ⟨d, hd, den⟩ := y S' _ f' o'
    have hle' : ∀ k, some m = some k → i ≤ k := fun k hk => by cases hk; exact hle
    have f2 : Fwd S1 H1 S' H2 := f'.trans o' (.of ex)
    refine ⟨⟨(i, d), hd, hle'⟩, S', (Fwd.of ex).slots sl', den, fun σ2 sl2 _ => ⟨⟨(i, d), hd, hle'⟩, ?_⟩⟩
    show (if i = m then tRzG X.K n W (stm m) (Io m) dd st' ow2 else tDS X.K (stm i) (Io i) (oo i)) _ σ2 H2
    by_cases he : i = m
    · rw [if_pos he]
      subst he
      exact ⟨S', sl2, o'.ex ex, fun S3 σ3 u H3 dd f3 sl3 o3 dn hn => q S3 σ3 u H3 dd (f1.trans o1 (f2.trans (o'.ex ex) f3)) sl3 o3 dn hn⟩
    · rw [if_neg he]
      have hlt : i < m := by omega
      refine ⟨S', sl2, o'.ex ex, ?_⟩
      rcases ho i hlt with z | z
      · show Goes X.K S' H2 _ (oo i)
        rw [z]
        exact fun S3 σ3 H3 f3 sl3 o3 => ⟨hlt, S3, f2.trans (o'.ex ex) f3, sl3, o3⟩
      · show Goes X.K S' H2 _ (oo i)
        rw [z]
        exact fun S3 σ3 H3 f3 sl3 o3 => ⟨hlt, S3, f2.trans (o'.ex ex) f3, sl3, o3⟩
  · omega
end
/-! ### try with clauses, of which one is met -/
def wHit (cls : Value) (i : Nat) (ts : Addr → Value → Option Addr → TS) (D : Ends) : WX := fun c d σ H =>
  c = cls ∧ ∀ a, H a = none → ts a c d { nx := fun σ' H' => D.nx (σ'.set i none) H', rt := D.rt, bk := fun σ' H' => D.bk (σ'.set i none) H', ct := fun σ' H' => D.ct (σ'.set i none) H' } (σ.set i (some (.ref a))) H
inductive Hdl (X : Cx) (cls : Value) (nm : Str) (ts : Addr → Value → Option Addr → TS) : List ExceptHandler → Prop
  | hit {x : Str} {c : Value} {b0 : Stmt} {suite : List Stmt} {np pos' : Pos} {more : List ExceptHandler} (hc : Names X x c) (hm : PySem.W.exmOne X.K cls c = some true)
      (hsu : ∀ (a : Addr) (oe : Obj) (d : Option Addr) (pn : List (Addr × Obj)), Zc cls d oe → (∃ vs, oe.data = .fields vs) → PSs (X.suite a ((a, oe) :: pn)) (b0 :: suite) (ts a cls d)) : Hdl X cls nm ts (.ExceptHandler (some (.Name x np)) (some nm) (b0 :: suite) pos' :: more)
  | miss {x : Str} {c : Value} {on : Option Str} {b0 : Stmt} {suite : List Stmt} {np pos' : Pos} {more : List ExceptHandler} (hc : Names X x c) (hm : PySem.W.exmOne X.K cls c = some false) (r : Hdl X cls nm ts more) : Hdl X cls nm ts (.ExceptHandler (some (.Name x np)) on (b0 :: suite) pos' :: more)
section
variable {X : Cx} {nm : Str} {cls : Value} {i : Nat} {body : List Stmt} {h0 : ExceptHandler} {hds : List ExceptHandler} {pos : Pos} {tb : WX → TS} {ts : Addr → Value → Option Addr → TS}
theorem ps_try_hit (hs : X.stack = X.env :: X.outer) (hf : X.env.frame = some X.env.locals) (hN : X.N.Nodup) (hi : X.N[i]? = some nm) (hln : X.env.kindOf nm = some .local)
    (hb : ∀ (W : WX) (pn : List (Addr × Obj)) (xe : Value → Shared → Prop), Takes (X.tr pn xe) W → PassesOwn (model X.prog X.w) X.A X.env xe → PSs (X.tr pn xe) body (tb W))
    (hh : Hdl X cls nm ts (h0 :: hds)) : PS X (.Try body (h0 :: hds) [] [] pos) (fun D σ H => tb (wHit cls i ts D) D σ H) := by
  refine ⟨fun pins s σ H D I hgo => ?_⟩
  have ok := I.ok
  have frames : X.A.frames = some (X.env :: X.outer) := by rw [ok.frames, hs]
  refine wpAny_Try_except ?_
  refine wpAny_mono ((hb (wHit cls i ts D) (X.pn ++ pins) (fun e s1 => wpAny (model X.prog X.w) X.A (noteFrame e X.env) (fun _ s2 => wpAny (model X.prog X.w) X.A (setFlight e none) (fun _ s3 =>
    wpAny (model X.prog X.w) X.A (handleBy e X.env (h0 :: hds)) (SP X pins D) X.xe s3) X.xe s2) X.xe s1) (fun u s' out => ?_) PassesOwn.looking).run [] s σ H D (I.toTry _) hgo) (fun f s1 q => ?_) (fun _ _ z => z)
  · obtain ⟨a, B, sI, pins', σ', H', cls', d, rfl, J', nb, up, sky, na, os, ag, rfl, hyes⟩ := out
    have J : Inv X pins σ' H' sI := J'.ofTry ok
    have sky1 : Sky B (X.env :: X.outer) a (Zc cls' d) X.env.locals s'.heap := by rw [← hs]; exact sky
    show wpAny (model X.prog X.w) X.A (noteFrame (.ref a) X.env) _ _ _
    refine Sky.land Zc.steady frames hf sky1 fun h3 fl3 up3 => ?_
    have J3 : Inv X pins σ' H' { s' with heap := h3 } := J.landed nb fl3.1 (up.trans up3) os ag
    obtain ⟨oe3, vs3, he3, hz3, hd3⟩ := fl3.there
    have out : a ∉ frs (X.env :: X.outer) := fun hmem => by
      obtain ⟨_, o', e', hnf⟩ := fl3.2.2.1.mem hmem
      rw [he3] at e'
      cases e'
      exact hnf _ hd3
    have nL : a ≠ X.env.locals := fun z => out (List.mem_filterMap.mpr ⟨X.env, List.mem_cons_self, by rw [hf, z]⟩)
    have nF : a ∉ X.fs := fun hmem => by
      obtain ⟨e, he, q⟩ := List.mem_filterMap.mp hmem
      exact out (List.mem_filterMap.mpr ⟨e, List.mem_cons_of_mem _ he, q⟩)
    have S3 := J3.suite he3 hd3 na nL nF
    have LT : PySem.W.Looks (model X.prog X.w) h3 (typeOf (.ref a)) cls' := fun A Q E s k q => wpAny_typeOf_ref (k _ _ he3) (by rw [hz3.1]; exact q)
    have named : ∀ {x : Str} {c : Value} {np : Pos} {Q : Value → Shared → Prop} {E : Value → Shared → Prop}, Names X x c → Q c { s' with heap := h3 } → wpAny (model X.prog X.w) (X.A.mark (some (.ref a))) (eval (.Name x np) X.env) Q E { s' with heap := h3 } := fun {x c np Q E} hc q => by
      obtain ⟨hg, hdbg, hm | ⟨hm, hv, hnn⟩⟩ := hc
      · exact ld_glob (X := X.suite a ((a, oe3) :: (X.pn ++ pins))) S3 hg hm q hdbg
      · exact ld_blt (X := X.suite a ((a, oe3) :: (X.pn ++ pins))) S3 hg hm hv q hnn hdbg
    have go : ∀ {l : List ExceptHandler}, Hdl X cls' nm ts l → wpAny (model X.prog X.w) X.A (handleBy (.ref a) X.env l) (SP X pins D) X.xe { s' with heap := h3 } := by
      intro l hl
      induction hl with
      | @hit x c b0 suite np pos' more hc hm hsu =>
        refine wpAny_handleBy_cons (codeAny_handlers_test ?_) (fun q => nomatch q)
        have LM := PySem.W.exm_one (M := model X.prog X.w) (J3.kIn) LT hm
        refine named hc (LM.here (codeAny_handlers_suite_as (HandSPX.lands_againZ fl3 fun h4 fl4 up4 => ?_)))
        have J4 : Inv X pins σ' H' { s' with heap := h4 } := J.landed nb fl4.1 ((up.trans up3).trans up4) os ag
        obtain ⟨oe4, vs4, he4, hz4, hd4⟩ := fl4.there
        have S4 := J4.suite he4 hd4 na nL nF
        refine store_ok (X := X.suite a ((a, oe4) :: (X.pn ++ pins))) (v := .ref a) S4 hN hi (.inl hln) rfl (fun s5 S5 => ?_) (.inr hln)
        refine wpAny_mono ((hsu a oe4 d (X.pn ++ pins) hz4 ⟨_, hd4⟩).run [] s5 _ H' _ S5 (hyes a na)) (fun f s6 q => ?_) (fun _ _ z => False.elim z)
        have close : ∀ {σ6 : L2.St} {H6 : Hp} {Q : Shared → Prop}, Inv (X.suite a ((a, oe4) :: (X.pn ++ pins))) [] σ6 H6 s6 → (∀ s7, Inv X pins (σ6.set i none) H6 s7 → Q s7) →
            wpAny (model X.prog X.w) X.A (do bindName X.env nm .none; unbindBehindTheSuite X.env nm pos') (fun _ s7 => Q s7) X.xe s6 := fun S6 hq => gone_ok (S6.unsuite ok) hN hi hln hq
        cases f with
        | next => obtain ⟨σ6, H6, S6, q6⟩ := q; exact close S6 fun s7 J7 => ⟨_, _, J7, q6⟩
        | brk => obtain ⟨σ6, H6, S6, q6⟩ := q; exact close S6 fun s7 J7 => ⟨_, _, J7, q6⟩
        | cont => obtain ⟨σ6, H6, S6, q6⟩ := q; exact close S6 fun s7 J7 => ⟨_, _, J7, q6⟩
        | ret u => obtain ⟨v6, σ6, H6, S6, r6, q6⟩ := q; exact close S6 fun s7 J7 => ⟨_, _, _, J7, r6, q6⟩
      | @miss x c on b0 suite np pos' more hc hm r ih =>
        refine wpAny_handleBy_cons (codeAny_handlers_test ?_) (fun q => nomatch q)
        have LM := PySem.W.exm_one (M := model X.prog X.w) (J3.kIn) LT hm
        refine named hc (LM.here ?_)
        show wpAny _ X.A (handleBy (.ref a) X.env more) _ _ _
        exact ih
    exact go hh
  · cases f with
    | next => obtain ⟨σ', H', J', q⟩ := q; exact wpAny_execs_nil ⟨σ', H', J'.ofTry ok, q⟩
    | brk => obtain ⟨σ', H', J', q⟩ := q; exact ⟨σ', H', J'.ofTry ok, q⟩
    | cont => obtain ⟨σ', H', J', q⟩ := q; exact ⟨σ', H', J'.ofTry ok, q⟩
    | ret u => obtain ⟨v, σ', H', J', r, q⟩ := q; exact ⟨v, σ', H', J'.ofTry ok, r, q⟩
end
end Bl
set_option Elab.async false
set_option linter.all false
set_option maxRecDepth 100000
set_option maxHeartbeats 4000000
namespace PySem
namespace Xq
open PySem.W PySem.Calls PyProof.Rows PySem.HandSPX Builtin Builtin.ObjectAttr
abbrev tailE : List Value := [.type "Exception", .type "BaseException", .type "object"]
section
variable {prog : Program} {w : World} {A : Around} {R : Result → Shared → Prop} {K : Frag}
/-- the first store into an exception just made: its own dict comes to be -/
theorem xq_store {s : Shared} {name : Str} {tk : Tok} {v : Value} {x C : Addr} {fv : Array Value} {cd : ClassData} (X : K.In s.heap) (hx : s.heap.get? x = some { cls := .ref C, data := .fields fv }) (hp : excOver K C tailE = true) (hcd : clsIn K C = some cd) (hh : cd.hasDict = true) (ht : takerIn K C name = some none)
    (hq : ∀ h' tk' dx, (∀ b o, b ≠ x → s.heap.get? b = some o → h'.get? b = some o) → s.heap.objs.size ≤ dx → dx ≠ x → h'.get? x = some { cls := .ref C, dict := some dx, data := .fields fv } → h'.Ns1 dx (fun y => if y = name then some v else none) → R (.ok (.ret .none)) { s with heap := h', toks := tk' }) :
    codeAny (model prog w) A (.call (.builtin "object.__setattr__") ⟨[.ref x, .str name tk, v], []⟩) R s := by
  refine osa_openX (od := none) F.store_Exception X ⟨hx, rfl, rfl, trivial⟩ hp ht fun b => ?_
  obtain ⟨hp0, g, d, t, os⟩ := s
  have hne : x ≠ hp0.objs.size := Nat.ne_of_lt (Heap.lt_size hx)
  have hcls : Looks (model prog w) hp0 (classData C) cd := looks_clsIn X hcd
  obtain ⟨nm, bs, mro, ns, qn, hd, sn, sb, ab, col, del⟩ := cd
  dsimp only at hh
  subst hh
  show wpAny _ _ (storeInOwnDict (.ref x) (.ref C) (.str name tk) name v b) _ _ _
  unfold storeInOwnDict ownDictForStores
  repeat (first | with_reducible refine store_in_new ?_ ?_ | with_reducible refine wpAny_loadPart_at hx ?_ | with_reducible refine hcls.at ?_ | wp_step)
  · exact ⟨_, #[], _, (Heap.get?_update_ne _ _ _ _ hne.symm).trans (Heap.get?_push_at rfl rfl), rfl, fun e he => absurd he (by simp), fun _ => rfl⟩
  · intro h' tk' hn' hs
    have h1 : (hp0.push { cls := .type "dict", data := .dict #[] }).get? x = some { cls := .ref C, data := .fields fv } := Heap.get?_push_of_some _ hx
    refine hq h' tk' hp0.objs.size (fun b o hb ho => (hs.2 b (Nat.ne_of_lt (Heap.lt_size ho))).trans ((Heap.get?_update_ne _ _ _ _ hb).trans (Heap.get?_push_of_some _ ho))) (Nat.le_refl _) hne.symm ((hs.2 x hne).trans (Heap.get?_update_self _ h1 rfl)) hn'
end
end Xq
end PySem
set_option Elab.async false
set_option linter.all false
set_option maxRecDepth 100000
set_option maxHeartbeats 4000000
namespace PySem
namespace Xq
open PySem.W PySem.Calls PyProof.Rows PySem.HandSPX Builtin Builtin.ObjectAttr
abbrev sBKB : Stmt := L2.inClass (Bl.topS 6) 0
/-- BadKind: an own exception class over Exception (by way of BentError) whose __init__ stores its one argument: what is found of it in the written part -/
structure BTxt (K : Frag) (C fI : Addr) : Prop where
  ini : excInitIn K C tailE "Exception.__new__" = true
  ovr : excOver K C tailE = true
  hd : hasDictIn K C = true
  sa : findIn K (.ref C) "__setattr__" = some (some (.builtin "object.__setattr__"))
  ga : findIn K (.ref C) "__getattribute__" = some (some (.builtin "BaseException.__getattribute__"))
  gg : findIn K (.ref C) "__getattr__" = some none
  no : findIn K (.ref C) "word" = some none
  iC : findIn K (.ref C) "__init__" = some (some (.ref fI))
  tI : typeIn K (.ref fI) = some (.type "function")
  kC : keepIn K (.ref C) = true
  exC : subIn K (.ref C) (.type "BaseException") = some true
  tyC : typeIn K (.ref C) = some (.type "type")
  te : exmOne K (.ref C) (.ref C) = some true
  fn : ∃ (oc : Value) (od : Option Addr) (kV doc pm : Value) (an : Option Addr) (cdv ct : Value) (osl : Array (Option Value)),
    K.lookup fI = some ⟨oc, od, .func (fnOf "__init__" "BadKind.__init__" (L2.defArgs sBKB) (L2.defBody sBKB) (L2.defScope sBKB) .none kV doc pm an cdv ct), osl⟩ ∧ codeIn K cdv "BadKind.__init__" = true
theorem bk_bodyB : ∃ q1 q2 q3 q4 : Pos, L2.defBody sBKB = [.Assign [.Attribute (.Name "self" q1) "word" q2] (.Name "word" q3) q4] := ⟨_, _, _, _, rfl⟩
section
variable {prog : Program} {w : World} {A : Around} {E : Value → Shared → Prop} {R : Result → Shared → Prop} {s : Shared} {K : Frag} {C fI : Addr}
/-- what stands behind the making -/
structure XMadeB (h h' : Heap) (C e d : Addr) (v : Value) : Prop where
  keep : ∀ b o, h.get? b = some o → h'.get? b = some o
  le : h.objs.size ≤ e
  obj : ∃ t, h'.get? e = some { cls := .ref C, dict := some d, data := .fields #[.ref t, .none, .none, .none, .bool false, .none] }
  ld : h.objs.size ≤ d
  ne : d ≠ e
  ns : h'.Ns1 d (fun y => if y = "word" then some v else none)
theorem x_loadB {scope : Scope} {name : Str} {L a : Addr} {cd : Value} {m : Str → Option Value} {x : Str} {pos : Pos} {v : Value} {Q : Value → Shared → Prop} {M : Model} (hn : s.heap.Ns L m) (hv : m x = some v) (hk : scope.kind = .function) (hl : (envOfC name scope L a cd).kindOf x = some .local) (hd : (x == ("__debug__" : Str)) = false) (h : Q v s) :
    wpAny M A (eval (.Name x pos) (envOfC name scope L a cd)) Q E s := wpAny_Name (wpAny_loadName_local hk hl hn hv h) hd
theorem x_initB (T : BTxt K C fI) {x t0 : Addr} {v : Value} (X : K.In s.heap) (hl : s.heap.NoLimit) (hx : s.heap.get? x = some (PX.excO C t0)) (hr : A.depth < recursionLimit)
    (hq : ∀ h' tk dx, (∀ b o, b ≠ x → s.heap.get? b = some o → h'.get? b = some o) → s.heap.objs.size ≤ dx → dx ≠ x → h'.get? x = some { cls := .ref C, dict := some dx, data := .fields #[.ref t0, .none, .none, .none, .bool false, .none] } → h'.Ns1 dx (fun y => if y = "word" then some v else none) → R (.ok (.ret .none)) { s with heap := h', toks := tk }) :
    codeAny (model prog w) A (.call (.ref fI) ⟨[.ref x, v], []⟩) R s := by
  obtain ⟨oc, od, kV, doc, pm, an, cdv, ct, osl, ho, hcd⟩ := T.fn
  obtain ⟨cd, hcl, hdc⟩ := any_some T.hd
  obtain ⟨q1, q2, q3, q4, hb⟩ := bk_bodyB
  refine Att.call_fn (binds := [("self", .ref x), ("word", v)]) X hl ho hcd hr (BindsTo.of_eq rfl) rfl (fun s1 IC => ?_) rfl rfl rfl
  obtain ⟨h1, tk1, rfl⟩ := IC.toInCall.same
  have k := IC.toInCall.keep
  have hn := IC.toInCall.ns
  have X1 : K.In h1 := X.keeps k
  have hx1 : h1.get? x = some (PX.excO C t0) := k _ _ hx
  have hsz : s.heap.objs.size < h1.objs.size := hn.lt
  rw [hb]
  refine wpAny_execs_cons (plainObj_wpAny_Assign_Attribute ?_)
  refine x_loadB (v := v) hn (by first | rfl | kernel_rfl) rfl rfl (by decide) ?_
  refine x_loadB (v := .ref x) hn (by first | rfl | kernel_rfl) rfl rfl (by decide) ?_
  refine set_plain X1 (ox := PX.excO C t0) (od := none) ⟨hx1, rfl, rfl, trivial⟩ T.sa ?_
  refine xq_store X1 hx1 T.ovr hcl hdc (L2.NoAttr.taker T.no) fun h3 tk3 dx k3 dn dne hx3 hn3 => ?_
  exact wpAny_execs_nil (hq h3 tk3 dx (fun b o hb e => k3 b o hb (k b o e)) (Nat.le_of_lt (Nat.lt_of_lt_of_le hsz dn)) dne hx3 hn3)
theorem x_madeB (T : BTxt K C fI) {v : Value} (X : K.In s.heap) (hl : s.heap.NoLimit) (hr : A.depth + 1 < recursionLimit) (hq : ∀ h' tk e d, XMadeB s.heap h' C e d v → R (.ok (.ret (.ref e))) { s with heap := h', toks := tk }) :
    codeAny (model prog w) A (.call (.ref C) ⟨[v], []⟩) R s := by
  obtain ⟨nm, N, qn, bs, bm, hdct, sn, sub, ab, col, dd, k0, k1, k2, k3, k5, hC, hT⟩ := excInit_of X T.ini
  obtain ⟨oc, od, kV, doc, pm, an, cdv, ct, osl, ho, hcd⟩ := T.fn
  obtain ⟨hp, g, dr, tk, os⟩ := s
  have k : ∀ b o, hp.get? b = some o → ((hp.push (kdv_tup [v])).push (PX.excO C hp.objs.size)).get? b = some o := fun b o e => Heap.get?_push_of_some _ (Heap.get?_push_of_some _ e)
  have hz : (hp.push (kdv_tup [v])).objs.size = hp.objs.size + 1 := Heap.size_push ..
  have hget : ((hp.push (kdv_tup [v])).push (PX.excO C hp.objs.size)).get? (hp.objs.size + 1) = some (PX.excO C hp.objs.size) := by
    have := Heap.get?_push_size (hp.push (kdv_tup [v])) (o := PX.excO C hp.objs.size) rfl
    rwa [hz] at this
  refine PX.call_own F.excBase_Exception hT hC (looks_findIn X T.iC) (fun self => bind_fn X self T.tI) (by show 1 ≤ sizeLine; rw [sizeLine_eq]; decide) ?_
  refine x_initB (s := ⟨(hp.push (kdv_tup [v])).push (PX.excO C hp.objs.size), g, dr, tk, os⟩) T (X.keeps k) (hl.keeps k) hget (by show A.depth + 1 < recursionLimit; exact hr) fun h' tk' dx k' dn dne hx hns => ?_
  have z2 : ((hp.push (kdv_tup [v])).push (PX.excO C hp.objs.size)).objs.size = hp.objs.size + 2 := by rw [Heap.size_push, hz]
  have dn' : hp.objs.size + 2 ≤ dx := by
    have q : ((hp.push (kdv_tup [v])).push (PX.excO C hp.objs.size)).objs.size ≤ dx := dn
    rwa [z2] at q
  exact ⟨rfl, hq h' tk' (hp.objs.size + 1) dx ⟨fun b o e => k' b o (Nat.ne_of_lt (Nat.lt_succ_of_lt (Heap.lt_size e))) (k b o e), Nat.le_succ _, ⟨_, hx⟩, Nat.le_trans (Nat.le_add_right _ 2) dn', dne, hns⟩⟩
end
end Xq
end PySem

namespace Bl
open PySem PySem.Spec PyProof.Rows L2 PySem.Xq
section
variable {X : Cx} {C fI : Addr}
abbrev wDB (v : V) : HO := .xd [(("word" : Str), v)]
theorem rel_wordB {v : V} {u : Value} (r : RelV v u) (f : Str) : RelO (List.lookup f [(("word" : Str), v)]) (if f = "word" then some u else none) := by
  rw [List.lookup_cons]
  by_cases h : f = "word"
  · rw [if_pos h, show (f == ("word" : Str)) = true by simpa using h]
    exact r
  · rw [if_neg h, show (f == ("word" : Str)) = false by simpa using h]
    trivial
/-- BadKind(e) -/
def tMkXB (C : Addr) (ta : TA) : L2.St → Hp → XK → Prop := fun σ H Q => ta σ H fun vs H1 => ∃ v, vs = [v] ∧ ∀ d, H1 d = none → Q (.ref C) (some d) (upd H1 d (wDB v))
theorem pmk_xB {a : Expr} {ta : TA} {p pos : Pos} {k : Nat} (T : BTxt X.K C fI) (gC : X.mg "BadKind" = some (.ref C)) (hr : Room k X.A) (ha : PA X [a] ta) (hg : Gl X "BadKind" := by rfl) (he : starEach [a] X.env = (false, eval a X.env) :: starEach [] X.env := by rfl) (hpl : (backTo pos (starEach [] X.env)).any (·.1) = false := by rfl) :
    PMk X (.Call (.Name "BadKind" p) [a] [] pos) (tMkXB C ta) := by
  intro pins s σ H Q I h
  refine wpAny_Call_Name_kw (ld_glob I hg gC ?_)
  refine PySem.W.callWith_K (h₀ := X.base) I.ok.mod.kin T.kC (thn (ha.run pos pins s σ H _ I h) fun us s1 ⟨vs, H1, I1, r1, v, ev, q1⟩ => ⟨I1.kIn, ?_⟩) he hpl
  subst ev
  obtain ⟨u, rfl, rv⟩ := vals1 r1
  have hlim := I1.nolimit
  obtain ⟨hp, g, dr, tk, os⟩ := s1
  show wpAny _ _ (call (.ref C) [u]) _ _ _
  refine wpAny_call (x_madeB T I1.kIn hlim (by have := hr.dp; omega) fun h' tk' e d M => ?_)
  obtain ⟨kp, le, ⟨t, hoe⟩, ld, ne, ns⟩ := M
  obtain ⟨G', g1, g2⟩ := restrict h' fun b => decide (b ≠ e)
  have same : ∀ b, b ≠ e → G'.get? b = h'.get? b := fun b hb => g1 b (decide_eq_true hb)
  have gone : G'.get? e = none := g2 e (by simp)
  have old : ∀ b o, hp.get? b = some o → G'.get? b = some o := fun b o q => (same b (Nat.ne_of_lt (Nat.lt_of_lt_of_le (Heap.lt_size q) le))).trans (kp b o q)
  have ob : ObjOk X.prog X.w (upd H1 d (wDB v)) G' d (wDB v) := ⟨_, ns.at (fun o q => (same d ne).trans q), fun f => rel_wordB rv f⟩
  have J : Inv X pins σ (upd H1 d (wDB v)) ⟨G', g, dr, tk', os⟩ := I1.laid (t' := tk') old ld ob
  refine ⟨e, _, _, ⟨G', g, dr, tk', os⟩, _, .ref C, some d, rfl, J, fun b o q => ?_, gone, hoe, ⟨rfl, rfl⟩, rfl, rfl, ?_, rfl, I1.bare, raises_own T.exC T.tyC, q1 d (I1.hok.fresh ld)⟩
  · have hbe : b ≠ e := fun z => by
      have q' : G'.get? b = some o := q
      rw [z, gone] at q'
      cases q'
    exact (same b hbe).symm.trans q
  · rw [upd_ne (Ne.symm ne)]
    exact I1.hok.fresh le
/-- error.word, error the exception in hand -/
def tWordB (C : Addr) (a : Addr) (cls : Value) (d : Option Addr) (te : TE) : TE := fun σ H Q => te σ H fun x H1 => x = .ref a ∧ cls = .ref C ∧ ∃ (dd : Addr) (v : V), d = some dd ∧ H1 dd = some (wDB v) ∧ Q v H1
theorem pe_wordB {a : Addr} {oe : Obj} {cls : Value} {d : Option Addr} {pn : List (Addr × Obj)} {e : Expr} {te : TE} {pos : Pos} (T : BTxt X.K C fI) (hz : Zc cls d oe) (hf : ∃ vs, oe.data = .fields vs) (he : PE (X.suite a ((a, oe) :: pn)) e te) (hb : attributeBase e "word" X.env (eval e X.env) = eval e X.env := by rfl) :
    PE (X.suite a ((a, oe) :: pn)) (.Attribute e "word" pos) (tWordB C a cls d te) := by
  refine ⟨fun pins s σ H Q I h => attr_of hb (thn (he.run pins s σ H _ I h) fun u s1 ⟨x, H1, I1, rx, ex, ec, dd, v, ed, ea, q⟩ => ?_)⟩
  subst ex ec ed
  cases (show u = Value.ref a from rx)
  obtain ⟨ha, _⟩ := I1.pin (a, oe) (List.mem_append_left _ List.mem_cons_self)
  obtain ⟨vs, hd⟩ := hf
  obtain ⟨mA, hns, hr⟩ := (show ObjOk X.prog X.w H1 s1.heap dd (wDB v) from I1.hok dd _ ea)
  obtain ⟨od, ho, hl⟩ := lookIn_ns hns
  obtain ⟨u, hu, ru⟩ := RelO.some_of (v := v) (o := mA "word") (hr "word")
  have J : PySem.W.InstAt s1.heap a oe C (some od) := ⟨ha, hz.1, by unfold PySem.W.notCls; rw [hd], by rw [hz.2]; exact ho⟩
  exact HandSPX.exc_get I1.kIn J T.ga T.gg T.exC (PySem.W.findObj_own T.hd T.no rfl (by rw [hl, hu])) (handed_of ru) ⟨v, H1, I1.tok _, ru, q⟩
end
end Bl
namespace PySem
namespace Xq
open PySem.W PySem.Calls PyProof.Rows PySem.HandSPX Builtin Builtin.ObjectAttr
abbrev sBKL : Stmt := L2.inClass (Bl.topS 5) 0
/-- BadLine: an own exception class over Exception (by way of BentError) whose __init__ stores its one argument: what is found of it in the written part -/
structure LTxt (K : Frag) (C fI : Addr) : Prop where
  ini : excInitIn K C tailE "Exception.__new__" = true
  ovr : excOver K C tailE = true
  hd : hasDictIn K C = true
  sa : findIn K (.ref C) "__setattr__" = some (some (.builtin "object.__setattr__"))
  ga : findIn K (.ref C) "__getattribute__" = some (some (.builtin "BaseException.__getattribute__"))
  gg : findIn K (.ref C) "__getattr__" = some none
  no : findIn K (.ref C) "line" = some none
  iC : findIn K (.ref C) "__init__" = some (some (.ref fI))
  tI : typeIn K (.ref fI) = some (.type "function")
  kC : keepIn K (.ref C) = true
  exC : subIn K (.ref C) (.type "BaseException") = some true
  tyC : typeIn K (.ref C) = some (.type "type")
  te : exmOne K (.ref C) (.ref C) = some true
  fn : ∃ (oc : Value) (od : Option Addr) (kV doc pm : Value) (an : Option Addr) (cdv ct : Value) (osl : Array (Option Value)),
    K.lookup fI = some ⟨oc, od, .func (fnOf "__init__" "BadLine.__init__" (L2.defArgs sBKL) (L2.defBody sBKL) (L2.defScope sBKL) .none kV doc pm an cdv ct), osl⟩ ∧ codeIn K cdv "BadLine.__init__" = true
theorem bk_bodyL : ∃ q1 q2 q3 q4 : Pos, L2.defBody sBKL = [.Assign [.Attribute (.Name "self" q1) "line" q2] (.Name "line" q3) q4] := ⟨_, _, _, _, rfl⟩
section
variable {prog : Program} {w : World} {A : Around} {E : Value → Shared → Prop} {R : Result → Shared → Prop} {s : Shared} {K : Frag} {C fI : Addr}
/-- what stands behind the making -/
structure XMadeL (h h' : Heap) (C e d : Addr) (v : Value) : Prop where
  keep : ∀ b o, h.get? b = some o → h'.get? b = some o
  le : h.objs.size ≤ e
  obj : ∃ t, h'.get? e = some { cls := .ref C, dict := some d, data := .fields #[.ref t, .none, .none, .none, .bool false, .none] }
  ld : h.objs.size ≤ d
  ne : d ≠ e
  ns : h'.Ns1 d (fun y => if y = "line" then some v else none)
theorem x_loadL {scope : Scope} {name : Str} {L a : Addr} {cd : Value} {m : Str → Option Value} {x : Str} {pos : Pos} {v : Value} {Q : Value → Shared → Prop} {M : Model} (hn : s.heap.Ns L m) (hv : m x = some v) (hk : scope.kind = .function) (hl : (envOfC name scope L a cd).kindOf x = some .local) (hd : (x == ("__debug__" : Str)) = false) (h : Q v s) :
    wpAny M A (eval (.Name x pos) (envOfC name scope L a cd)) Q E s := wpAny_Name (wpAny_loadName_local hk hl hn hv h) hd
theorem x_initL (T : LTxt K C fI) {x t0 : Addr} {v : Value} (X : K.In s.heap) (hl : s.heap.NoLimit) (hx : s.heap.get? x = some (PX.excO C t0)) (hr : A.depth < recursionLimit)
    (hq : ∀ h' tk dx, (∀ b o, b ≠ x → s.heap.get? b = some o → h'.get? b = some o) → s.heap.objs.size ≤ dx → dx ≠ x → h'.get? x = some { cls := .ref C, dict := some dx, data := .fields #[.ref t0, .none, .none, .none, .bool false, .none] } → h'.Ns1 dx (fun y => if y = "line" then some v else none) → R (.ok (.ret .none)) { s with heap := h', toks := tk }) :
    codeAny (model prog w) A (.call (.ref fI) ⟨[.ref x, v], []⟩) R s := by
  obtain ⟨oc, od, kV, doc, pm, an, cdv, ct, osl, ho, hcd⟩ := T.fn
  obtain ⟨cd, hcl, hdc⟩ := any_some T.hd
  obtain ⟨q1, q2, q3, q4, hb⟩ := bk_bodyL
  refine Att.call_fn (binds := [("self", .ref x), ("line", v)]) X hl ho hcd hr (BindsTo.of_eq rfl) rfl (fun s1 IC => ?_) rfl rfl rfl
  obtain ⟨h1, tk1, rfl⟩ := IC.toInCall.same
  have k := IC.toInCall.keep
  have hn := IC.toInCall.ns
  have X1 : K.In h1 := X.keeps k
  have hx1 : h1.get? x = some (PX.excO C t0) := k _ _ hx
  have hsz : s.heap.objs.size < h1.objs.size := hn.lt
  rw [hb]
  refine wpAny_execs_cons (plainObj_wpAny_Assign_Attribute ?_)
  refine x_loadL (v := v) hn (by first | rfl | kernel_rfl) rfl rfl (by decide) ?_
  refine x_loadL (v := .ref x) hn (by first | rfl | kernel_rfl) rfl rfl (by decide) ?_
  refine set_plain X1 (ox := PX.excO C t0) (od := none) ⟨hx1, rfl, rfl, trivial⟩ T.sa ?_
  refine xq_store X1 hx1 T.ovr hcl hdc (L2.NoAttr.taker T.no) fun h3 tk3 dx k3 dn dne hx3 hn3 => ?_
  exact wpAny_execs_nil (hq h3 tk3 dx (fun b o hb e => k3 b o hb (k b o e)) (Nat.le_of_lt (Nat.lt_of_lt_of_le hsz dn)) dne hx3 hn3)
theorem x_madeL (T : LTxt K C fI) {v : Value} (X : K.In s.heap) (hl : s.heap.NoLimit) (hr : A.depth + 1 < recursionLimit) (hq : ∀ h' tk e d, XMadeL s.heap h' C e d v → R (.ok (.ret (.ref e))) { s with heap := h', toks := tk }) :
    codeAny (model prog w) A (.call (.ref C) ⟨[v], []⟩) R s := by
  obtain ⟨nm, N, qn, bs, bm, hdct, sn, sub, ab, col, dd, k0, k1, k2, k3, k5, hC, hT⟩ := excInit_of X T.ini
  obtain ⟨oc, od, kV, doc, pm, an, cdv, ct, osl, ho, hcd⟩ := T.fn
  obtain ⟨hp, g, dr, tk, os⟩ := s
  have k : ∀ b o, hp.get? b = some o → ((hp.push (kdv_tup [v])).push (PX.excO C hp.objs.size)).get? b = some o := fun b o e => Heap.get?_push_of_some _ (Heap.get?_push_of_some _ e)
  have hz : (hp.push (kdv_tup [v])).objs.size = hp.objs.size + 1 := Heap.size_push ..
  have hget : ((hp.push (kdv_tup [v])).push (PX.excO C hp.objs.size)).get? (hp.objs.size + 1) = some (PX.excO C hp.objs.size) := by
    have := Heap.get?_push_size (hp.push (kdv_tup [v])) (o := PX.excO C hp.objs.size) rfl
    rwa [hz] at this
  refine PX.call_own F.excBase_Exception hT hC (looks_findIn X T.iC) (fun self => bind_fn X self T.tI) (by show 1 ≤ sizeLine; rw [sizeLine_eq]; decide) ?_
  refine x_initL (s := ⟨(hp.push (kdv_tup [v])).push (PX.excO C hp.objs.size), g, dr, tk, os⟩) T (X.keeps k) (hl.keeps k) hget (by show A.depth + 1 < recursionLimit; exact hr) fun h' tk' dx k' dn dne hx hns => ?_
  have z2 : ((hp.push (kdv_tup [v])).push (PX.excO C hp.objs.size)).objs.size = hp.objs.size + 2 := by rw [Heap.size_push, hz]
  have dn' : hp.objs.size + 2 ≤ dx := by
    have q : ((hp.push (kdv_tup [v])).push (PX.excO C hp.objs.size)).objs.size ≤ dx := dn
    rwa [z2] at q
  exact ⟨rfl, hq h' tk' (hp.objs.size + 1) dx ⟨fun b o e => k' b o (Nat.ne_of_lt (Nat.lt_succ_of_lt (Heap.lt_size e))) (k b o e), Nat.le_succ _, ⟨_, hx⟩, Nat.le_trans (Nat.le_add_right _ 2) dn', dne, hns⟩⟩
end
end Xq
end PySem

namespace Bl
open PySem PySem.Spec PyProof.Rows L2 PySem.Xq
section
variable {X : Cx} {C fI : Addr}
abbrev wDL (v : V) : HO := .xd [(("line" : Str), v)]
theorem rel_wordL {v : V} {u : Value} (r : RelV v u) (f : Str) : RelO (List.lookup f [(("line" : Str), v)]) (if f = "line" then some u else none) := by
  rw [List.lookup_cons]
  by_cases h : f = "line"
  · rw [if_pos h, show (f == ("line" : Str)) = true by simpa using h]
    exact r
  · rw [if_neg h, show (f == ("line" : Str)) = false by simpa using h]
    trivial
/-- BadLine(e) -/
def tMkXL (C : Addr) (ta : TA) : L2.St → Hp → XK → Prop := fun σ H Q => ta σ H fun vs H1 => ∃ v, vs = [v] ∧ ∀ d, H1 d = none → Q (.ref C) (some d) (upd H1 d (wDL v))
theorem pmk_xL {a : Expr} {ta : TA} {p pos : Pos} {k : Nat} (T : LTxt X.K C fI) (gC : X.mg "BadLine" = some (.ref C)) (hr : Room k X.A) (ha : PA X [a] ta) (hg : Gl X "BadLine" := by rfl) (he : starEach [a] X.env = (false, eval a X.env) :: starEach [] X.env := by rfl) (hpl : (backTo pos (starEach [] X.env)).any (·.1) = false := by rfl) :
    PMk X (.Call (.Name "BadLine" p) [a] [] pos) (tMkXL C ta) := by
  intro pins s σ H Q I h
  refine wpAny_Call_Name_kw (ld_glob I hg gC ?_)
  refine PySem.W.callWith_K (h₀ := X.base) I.ok.mod.kin T.kC (thn (ha.run pos pins s σ H _ I h) fun us s1 ⟨vs, H1, I1, r1, v, ev, q1⟩ => ⟨I1.kIn, ?_⟩) he hpl
  subst ev
  obtain ⟨u, rfl, rv⟩ := vals1 r1
  have hlim := I1.nolimit
  obtain ⟨hp, g, dr, tk, os⟩ := s1
  show wpAny _ _ (call (.ref C) [u]) _ _ _
  refine wpAny_call (x_madeL T I1.kIn hlim (by have := hr.dp; omega) fun h' tk' e d M => ?_)
  obtain ⟨kp, le, ⟨t, hoe⟩, ld, ne, ns⟩ := M
  obtain ⟨G', g1, g2⟩ := restrict h' fun b => decide (b ≠ e)
  have same : ∀ b, b ≠ e → G'.get? b = h'.get? b := fun b hb => g1 b (decide_eq_true hb)
  have gone : G'.get? e = none := g2 e (by simp)
  have old : ∀ b o, hp.get? b = some o → G'.get? b = some o := fun b o q => (same b (Nat.ne_of_lt (Nat.lt_of_lt_of_le (Heap.lt_size q) le))).trans (kp b o q)
  have ob : ObjOk X.prog X.w (upd H1 d (wDL v)) G' d (wDL v) := ⟨_, ns.at (fun o q => (same d ne).trans q), fun f => rel_wordL rv f⟩
  have J : Inv X pins σ (upd H1 d (wDL v)) ⟨G', g, dr, tk', os⟩ := I1.laid (t' := tk') old ld ob
  refine ⟨e, _, _, ⟨G', g, dr, tk', os⟩, _, .ref C, some d, rfl, J, fun b o q => ?_, gone, hoe, ⟨rfl, rfl⟩, rfl, rfl, ?_, rfl, I1.bare, raises_own T.exC T.tyC, q1 d (I1.hok.fresh ld)⟩
  · have hbe : b ≠ e := fun z => by
      have q' : G'.get? b = some o := q
      rw [z, gone] at q'
      cases q'
    exact (same b hbe).symm.trans q
  · rw [upd_ne (Ne.symm ne)]
    exact I1.hok.fresh le
/-- error.word, error the exception in hand -/
def tWordL (C : Addr) (a : Addr) (cls : Value) (d : Option Addr) (te : TE) : TE := fun σ H Q => te σ H fun x H1 => x = .ref a ∧ cls = .ref C ∧ ∃ (dd : Addr) (v : V), d = some dd ∧ H1 dd = some (wDL v) ∧ Q v H1
theorem pe_lineL {a : Addr} {oe : Obj} {cls : Value} {d : Option Addr} {pn : List (Addr × Obj)} {e : Expr} {te : TE} {pos : Pos} (T : LTxt X.K C fI) (hz : Zc cls d oe) (hf : ∃ vs, oe.data = .fields vs) (he : PE (X.suite a ((a, oe) :: pn)) e te) (hb : attributeBase e "line" X.env (eval e X.env) = eval e X.env := by rfl) :
    PE (X.suite a ((a, oe) :: pn)) (.Attribute e "line" pos) (tWordL C a cls d te) := by
  refine ⟨fun pins s σ H Q I h => attr_of hb (thn (he.run pins s σ H _ I h) fun u s1 ⟨x, H1, I1, rx, ex, ec, dd, v, ed, ea, q⟩ => ?_)⟩
  subst ex ec ed
  cases (show u = Value.ref a from rx)
  obtain ⟨ha, _⟩ := I1.pin (a, oe) (List.mem_append_left _ List.mem_cons_self)
  obtain ⟨vs, hd⟩ := hf
  obtain ⟨mA, hns, hr⟩ := (show ObjOk X.prog X.w H1 s1.heap dd (wDL v) from I1.hok dd _ ea)
  obtain ⟨od, ho, hl⟩ := lookIn_ns hns
  obtain ⟨u, hu, ru⟩ := RelO.some_of (v := v) (o := mA "line") (hr "line")
  have J : PySem.W.InstAt s1.heap a oe C (some od) := ⟨ha, hz.1, by unfold PySem.W.notCls; rw [hd], by rw [hz.2]; exact ho⟩
  exact HandSPX.exc_get I1.kIn J T.ga T.gg T.exC (PySem.W.findObj_own T.hd T.no rfl (by rw [hl, hu])) (handed_of ru) ⟨v, H1, I1.tok _, ru, q⟩
end
end Bl
set_option Elab.async false
set_option linter.all false
set_option maxRecDepth 100000
set_option maxHeartbeats 4000000
namespace Bl
open PySem PySem.Spec PyProof.Rows L2 PySem.Xq
/-! ### == of any plain data -/
mutual
def pyD : D → Option PyData
  | .non => some .none
  | .bl b => some (.bool b)
  | .int i => some (.int i)
  | .str s => some (.str s)
  | .tup l => (pyDs l).map .tuple
  | .tupN l => (pyDs l).map .tuple
  | .par l => (pyDs l).map .tuple
  | .lst l => (pyDs l).map .list
  | .lstV l => (pyDs l).map .list
  | .ty _ => none
  | .ins _ _ => none
  | .dT _ => none
def pyDs : List D → Option (List PyData)
  | [] => some []
  | d :: l => match pyD d, pyDs l with
    | some a, some b => some (a :: b)
    | _, _ => none
end
theorem den_py {K : PySem.W.Frag} {S : List Addr} {H : Hp} {g : G} (h : DenG K S H g) : match g with
    | .v x d => ∀ p, pyD d = some p → Dp K H x p
    | .vs xs ds => ∀ p, pyDs ds = some p → DpAll K H xs p
    | _ => True := by
  have tm : ∀ {f : List PyData → PyData} {o : Option (List PyData)} {p : PyData}, o.map f = some p → ∃ ps, o = some ps ∧ f ps = p := fun {f o p} e => by
    cases o with
    | none => cases e
    | some ps => exact ⟨ps, rfl, Option.some.inj e⟩
  induction h with
  | non => intro p e; cases e; exact .non
  | bl b => intro p e; cases e; exact .bl b
  | int i => intro p e; cases e; exact .int i
  | str s => intro p e; cases e; exact .str s
  | ty n => intro p e; unfold pyD at e; cases e
  | tup h _ r => intro p e; unfold pyD at e; obtain ⟨ps, e1, rfl⟩ := tm e; exact .tup h.sq (r ps e1)
  | tupN h _ r => intro p e; unfold pyD at e; obtain ⟨ps, e1, rfl⟩ := tm e; exact .tup h.sq (r ps e1)
  | par n h _ r => intro p e; unfold pyD at e; obtain ⟨ps, e1, rfl⟩ := tm e; exact .tup (.inl h) (r ps e1)
  | lst h _ r => intro p e; unfold pyD at e; obtain ⟨ps, e1, rfl⟩ := tm e; exact .lst h.sq (r ps e1)
  | lstV n h _ r => intro p e; unfold pyD at e; obtain ⟨ps, e1, rfl⟩ := tm e; exact .lst (.inl (.inl h)) (r ps e1)
  | ins n h _ r => intro p e; unfold pyD at e; cases e
  | dT n h _ r => intro p e; unfold pyD at e; cases e
  | nil => intro p e; unfold pyDs at e; cases e; exact .nil
  | @cons x d xs ds h t ih1 ih2 =>
    intro p e
    unfold pyDs at e
    cases h1 : pyD d with
    | none => rw [h1] at e; cases e
    | some a =>
      cases h2 : pyDs ds with
      | none => rw [h1, h2] at e; cases e
      | some b =>
        rw [h1, h2] at e
        cases e
        exact .cons (ih1 a h1) (ih2 b h2)
  | fnil => trivial
  | fcons _ _ _ _ => trivial
  | knil => trivial
  | kcons _ _ _ _ => trivial
theorem rd_eqP {K : PySem.W.Frag} {x y : D} {p q : PyData} (hx : pyD x = some p) (hy : pyD y = some q) (sp : SeqAt.shaped p = true) (sq : SeqAt.shaped q = true) : RD K (rEqD K) x y (.bl (PyData.eqv p q)) := fun S H ow vx vy Q o dx dy k =>
  ⟨p, q, den_py dx p hx, den_py dy q hy, sp, sq, k _ H (Evl.Ex.refl H) (.bl _)⟩
theorem rd_neP {K : PySem.W.Frag} {x y : D} {p q : PyData} (hx : pyD x = some p) (hy : pyD y = some q) (sp : SeqAt.shaped p = true) (sq : SeqAt.shaped q = true) : RD K (rNeD K) x y (.bl (!PyData.eqv p q)) := fun S H ow vx vy Q o dx dy k =>
  ⟨p, q, den_py dx p hx, den_py dy q hy, sp, sq, k _ H (Evl.Ex.refl H) (.bl _)⟩
/-! ### the word of an exception, told -/
def tFld (n : XN) (a : Addr) (cls : Value) (d : Option Addr) (te : TE) : TE := fun σ H Q => te σ H fun x H1 => x = .ref a ∧ cls = .ref n.cls ∧ ∃ (dd : Addr) (v : V), d = some dd ∧ H1 dd = some (xdF n.fld v) ∧ Q v H1
def tsWord (n : XN) (w : Str) (ie it : Nat) : Addr → Value → Option Addr → TS := fun a cls d => tAsg (tTup (tCons (tC (.str w)) (tCons (tFld n a cls d (tVar ie)) tNil))) (gName it)
section
variable {X : Cx} {nm : Str} {n : XN} {w : Str} {body : List Stmt} {h0 : ExceptHandler} {hds : List ExceptHandler} {pos : Pos} {st st1 : Sta} {ow ow1 : List OB} {d : D}
theorem psd_tryW (ie it : Nat) (hs : X.stack = X.env :: X.outer) (hf : X.env.frame = some X.env.locals) (hN : X.N.Nodup) (hi : X.N[ie]? = some nm) (hln : X.env.kindOf nm = some .local) (hie : ie < st1.length) (hne : ie ≠ it)
    (hb : ∀ (W : WX) (pn : List (Addr × Obj)) (xe : Value → Shared → Prop), Takes (X.tr pn xe) W → PassesOwn (model X.prog X.w) X.A X.env xe → PXB (X.tr pn xe) n W st ow body d st1 ow1)
    (hh : Hdl X (.ref n.cls) nm (tsWord n w ie it) (h0 :: hds)) : PSD X st ow (.Try body (h0 :: hds) [] [] pos) (.nx ((st1.set it (some (.d (.tup [.str w, d])))).set ie none) ow1) :=
  (ps_try_hit (cls := .ref n.cls) (i := ie) (tb := fun W => tRzG X.K n W st ow d st1 ow1) (ts := tsWord n w ie it) hs hf hN hi hln hb hh).imp fun D σ H ⟨S, sl, o, k⟩ => ⟨S, sl, o, fun S' σ' u H' dd f1 sl1 o1 du hdd => ⟨rfl, fun a ha => by
    have ex : Evl.Ex H' (upd H' dd (xdF n.fld u)) := Evl.Ex.new hdd
    have hlen := sl1.len
    have o2 := o1.ex ex
    have du2 := Den.mono (.of ex) du
    show ∃ v, (σ'.set ie (some (V.ref a)))[ie]? = some (some v) ∧ (v = .ref a ∧ Value.ref n.cls = .ref n.cls ∧ ∃ (dd' : Addr) (v' : V), some dd = some dd' ∧ (upd H' dd (xdF n.fld u)) dd' = some (xdF n.fld v') ∧ ([V.str w, v'].length ≤ sizeLine ∧ ∀ p, (upd H' dd (xdF n.fld u)) p = none → D.nx (((σ'.set ie (some (V.ref a))).set it (some (.ref p))).set ie none) (upd (upd H' dd (xdF n.fld u)) p (.tup [.str w, v']))))
    refine ⟨.ref a, List.getElem?_set_self (by rw [hlen]; exact hie), rfl, rfl, dd, u, rfl, upd_same, Evl.sz_of (by show 2 ≤ 100000; decide), fun p hp => ?_⟩
    have ex2 : Evl.Ex (upd H' dd (xdF n.fld u)) (upd (upd H' dd (xdF n.fld u)) p (.tup [.str w, u])) := Evl.Ex.new hp
    have dt : Den X.K S' (upd (upd H' dd (xdF n.fld u)) p (.tup [.str w, u])) (.ref p) (.tup [.str w, d]) := new_tup o2 hp (.cons (.str w) (.cons du2 .nil))
    have e : ((σ'.set ie (some (V.ref a))).set it (some (.ref p))).set ie none = (σ'.set it (some (.ref p))).set ie none := by rw [List.set_comm _ _ hne, List.set_set]
    rw [e]
    have sl2 : Slots X.K S' (upd (upd H' dd (xdF n.fld u)) p (.tup [.str w, u])) (σ'.set it (some (.ref p))) (st1.set it (some (.d (.tup [.str w, d])))) := ((sl1.mono (.of ex)).mono (.of ex2)).set it (.d dt)
    exact k S' _ _ (f1.trans o1 ((Fwd.of ex).trans o2 (.of ex2))) (sl2.wipe [ie]) (o2.ex ex2)⟩⟩
end
/-! ### what raises -/
section
variable {P : Program} {w : World} {K : PySem.W.Frag} {mg : Str → Option Value} {base : Heap} {f : Addr} {fd : FuncData} {k : Nat} {C CB CL fB fL : Addr}
abbrev nB (CB : Addr) : XN := ⟨CB, "word"⟩
abbrev nL (CL : Addr) : XN := ⟨CL, "line"⟩
def gCheckLineX : GX := fun rs ow d ow' => ∃ n m : Int, rs = [.d (.int n), .d (.int m)] ∧ ¬ (0 ≤ n ∧ n < m) ∧ d = .int n ∧ ow' = ow
theorem ok_checkLineX (F : Fun K "check_line" "check_line" sCheckLine f fd) (TL : LTxt K CL fL) (gL : mg "BadLine" = some (.ref CL)) (C1 : Fg P w K mg base "is_int" k ["value"] gIsInt) : FnOk P w K mg base (L2.CX P w) (k + 1) f fd ["line", "size"] (spR K (nL CL) gCheckLineX) := by
  refine okR F scCheckLine (fun rs ow d ow' h => ?_) (fun cdv A outer s H E hr rs ow d ow' h => ?_)
  · obtain ⟨n, m, rfl, _⟩ := h
    rfl
  · obtain ⟨n, m, rfl, hb, rfl, rfl⟩ := h
    exact ⟨_, psx_last (pxs_ifT (ptd_bool (pwd_or (ptd_not (ptd_val (pd_cg C1 hr (Nat.le_refl _) (padd_cons (pd_var 0) padd_nil) ⟨.int n, "int", rfl, rfl, rfl, rfl⟩))) (fun _ => pwd_or1 (ptd_not (ptd_chain op_le op_lt (rd_I0 rfl) (rd_I0 rfl) pd_int (pd_var 0) (pd_var 1)))))) (by simp [isI]; omega) (psx_last (pxs_raise rfl (takes_of rfl rfl rfl rfl) (pmk_xL TL gL hr (padd_cons (pd_var 0) padd_nil)))))⟩
def LotBad (m : Int) (qs : List Int) (j : Nat) : Prop := j < qs.length ∧ (∀ i q, i < j → qs[i]? = some q → (0 ≤ q ∧ q < m) ∧ q ∉ qs.take i) ∧ ∀ q, qs[j]? = some q → ¬ (0 ≤ q ∧ q < m) ∨ q ∈ qs.take j
def gLotFromX : GX := fun rs ow d ow' => ∃ (t : Bool) (m : Int) (qs : List Int) (j : Nat), rs = [.d (sqD t (qs.map D.int)), .d (.int m)] ∧ LotBad m qs j ∧ d = .int (qs.getD j 0) ∧ ow' = ow
theorem ok_lotFromX (F : Fun K "lot_from_lines" "lot_from_lines" sLotFrom f fd) (TL : LTxt K CL fL) (gL : mg "BadLine" = some (.ref CL)) (C1 : Fg P w K mg base "check_line" k ["line", "size"] gCheckLine) (CX1 : FgX P w K mg base "check_line" k ["line", "size"] (nL CL) gCheckLineX) (mE : mg "enumerate" = none) : FnOk P w K mg base (L2.CX P w) (k + 1) f fd ["value", "size"] (spR K (nL CL) gLotFromX) := by
  refine okR F scLotFrom (fun rs ow d ow' h => ?_) (fun cdv A outer s H E hr rs ow d ow' h => ?_)
  · obtain ⟨t, m, qs, j, rfl, _⟩ := h
    rfl
  · obtain ⟨t, m, qs, j, rfl, ⟨hj, hgood, hbad⟩, rfl, rfl⟩ := h
    have eD : ∀ {i : Nat} {q : Int}, qs[i]? = some q → (qs.map D.int).getD i .non = .int q := fun {i q} h => by rw [List.getD_eq_getElem?_getD, List.getElem?_map, h]; rfl
    refine ⟨[some (.d (sqD t (qs.map D.int))), some (.d (.int m)), some (.d (.int (j : Nat))), some (.d ((qs.map D.int).getD j .non))], psx_last (pxs_for [2, 3] (fun _ => [some (.d (sqD t (qs.map D.int))), some (.d (.int m)), none, none]) (fun _ => ow') j (fun i => [some (.d (sqD t (qs.map D.int))), some (.d (.int m)), some (.d (.int (i : Nat))), some (.d ((qs.map D.int).getD i .non))]) (fun i => .nx [some (.d (sqD t (qs.map D.int))), some (.d (.int m)), none, none] ow') (passes_of rfl) rfl (pid_enumS mE (padd_cons (pd_var 0) padd_nil)) ⟨rfl, fun i r h => h⟩ rfl (fun i d hd _ => ?_) (fun i d hd hlt => ?_) (fun d hd => ?_) (fun i hi => .inl rfl) (by rw [enumD_len, List.length_map]; exact hj))⟩
    · obtain ⟨x, hx, rfl⟩ := enumD_some hd
      rw [getD_of hx]
      exact pgd_tup rfl (pgsd_cons (pgd_name 2 scLotFrom.nd) (pgsd_cons (pgd_name 3 scLotFrom.nd) pgsd_nil))
    · obtain ⟨x, hx, rfl⟩ := enumD_some hd
      rw [getD_of hx]
      obtain ⟨q, hq, rfl⟩ := map_some_of hx
      obtain ⟨⟨g1, g2⟩, g3⟩ := hgood i q hlt hq
      exact pbd_weak (pbd_cons (psd_expr (pd_cg C1 hr (Nat.le_refl _) (padd_cons (pd_var 3) (padd_cons (pd_var 1) padd_nil)) ⟨q, m, rfl, g1, g2, rfl, rfl⟩)) (pbd_skip (ptd_in (ns := qs.take i) (pd_var 3) (pd_slS (t := t) (ds := qs.map D.int) (pd_var 0) pod_none (pod_some (pd_var 2))) (seqL_cut t qs i)) (decide_eq_false g3) pbd_nil)) rfl (by (intro i r h; rcases i with _ | _ | _ | _ | _ | _ | _ | _ | _ | i <;> first | exact h | cases h))
    · obtain ⟨x, hx, rfl⟩ := enumD_some hd
      rw [getD_of hx]
      obtain ⟨q, hq, rfl⟩ := map_some_of hx
      rw [show qs.getD j 0 = q by rw [List.getD_eq_getElem?_getD, hq]; rfl]
      by_cases hr0 : 0 ≤ q ∧ q < m
      · have hm := (hbad q hq).resolve_left fun z => z hr0
        exact psx_cons (psd_expr (pd_cg C1 hr (Nat.le_refl _) (padd_cons (pd_var 3) (padd_cons (pd_var 1) padd_nil)) ⟨q, m, rfl, hr0.1, hr0.2, rfl, rfl⟩)) (psx_last (pxs_ifT (ptd_in (ns := qs.take j) (pd_var 3) (pd_slS (t := t) (ds := qs.map D.int) (pd_var 0) pod_none (pod_some (pd_var 2))) (seqL_cut t qs j)) (decide_eq_true hm) (psx_last (pxs_raise rfl (takes_of rfl rfl rfl rfl) (pmk_xL TL gL hr (padd_cons (pd_var 3) padd_nil))))))
      · exact psx_last (pxs_expr (pxe_call CX1 hr (Nat.le_refl _) (takes_of rfl rfl rfl rfl) (padd_cons (pd_var 3) (padd_cons (pd_var 1) padd_nil)) ⟨q, m, rfl, hr0, rfl, rfl⟩))
def gLotOfX : GX := fun rs ow d ow' => ∃ (t : Bool) (m : Int) (qs : List Int) (j : Nat), rs = [.d (sqD t (qs.map D.int)), .d (.int m)] ∧ LotBad m qs j ∧ 1 ≤ m ∧ m ≤ 16 ∧ d = .int (qs.getD j 0) ∧ ow' = ow
theorem ok_lotOfX (F : Fun K "lot_of" "lot_of" sLotOf f fd) (C1 : Fg P w K mg base "check_size" k ["size"] gCheckSize) (CX1 : FgX P w K mg base "lot_from_lines" k ["value", "size"] (nL CL) gLotFromX) (mI : mg "isinstance" = none) (mL : mg "list" = none) (mT : mg "tuple" = none) : FnOk P w K mg base (L2.CX P w) (k + 1) f fd ["value", "size"] (spR K (nL CL) gLotOfX) := by
  refine okR F scLotOf (fun rs ow d ow' h => ?_) (fun cdv A outer s H E hr rs ow d ow' h => ?_)
  · obtain ⟨t, m, qs, j, rfl, _⟩ := h
    rfl
  · obtain ⟨t, m, qs, j, rfl, hb, h1, h2, rfl, rfl⟩ := h
    refine ⟨_, psx_cons (psd_expr (pd_cg C1 hr (Nat.le_refl _) (padd_cons (pd_var 1) padd_nil) ⟨m, rfl, h1, h2, rfl, rfl⟩)) (psx_skip (ptd_not (ptd_val (pd_isT2 (n := "list") (m := "tuple") (t := tyS t) mI (padd_cons (pd_var 0) (padd_cons (pd_tup (padd_cons (pd_ty mL) (padd_cons (pd_ty mT) padd_nil))) padd_nil)) (!t) t (tyB_sq t _) (by cases t <;> decide +kernel) (by cases t <;> decide +kernel)))) (by cases t <;> rfl) (psx_last (pxs_ret (pxe_call CX1 hr (Nat.le_refl _) (takes_of rfl rfl rfl rfl) (padd_cons (pd_var 0) (padd_cons (pd_var 1) padd_nil)) ⟨t, m, qs, j, rfl, hb, rfl, rfl⟩))))⟩
def gPartX (C : Addr) : GX := fun rs ow d ow' => ∃ (t : Bool) (n : Int) (ns qs : List Int) (j : Nat), rs = [.d (chartD C n ns), .d (sqD t (qs.map D.int))] ∧ LotBad n qs j ∧ 1 ≤ n ∧ n ≤ 16 ∧ d = .int (qs.getD j 0) ∧ ow' = ow
theorem ok_partX (F : Fun K "part" "Chart.part" sPart f fd) (T : ChTxt K C) (CX1 : FgX P w K mg base "lot_of" k ["value", "size"] (nL CL) gLotOfX) : FnOk P w K mg base (L2.CX P w) (k + 1) f fd ["self", "lot"] (spR K (nL CL) (gPartX C)) := by
  refine okR F scPart (fun rs ow d ow' h => ?_) (fun cdv A outer s H E hr rs ow d ow' h => ?_)
  · obtain ⟨t, n, ns, qs, j, rfl, _⟩ := h
    rfl
  · obtain ⟨t, n, ns, qs, j, rfl, hb, h1, h2, rfl, rfl⟩ := h
    exact ⟨_, psx_last (pxs_set 2 scPart.nd (pxe_call CX1 hr (Nat.le_refl _) (takes_of rfl rfl rfl rfl) (padd_cons (pd_var 1) (padd_cons (pd_fld (pd_var 0) T.cl T.size (chF_size n ns)) padd_nil)) ⟨t, n, qs, j, rfl, hb, h1, h2, rfl, rfl⟩))⟩
def gPartK (C : Addr) : GX := fun rs ow d ow' => ∃ (n : Int) (ns : List Int), rs = [.d (chartD C n ns), .d (.lst [])] ∧ 1 ≤ n ∧ n ≤ 16 ∧ d = .str "lot" ∧ ow' = ow
theorem ok_partK (F : Fun K "part" "Chart.part" sPart f fd) (T : ChTxt K C) (TB : BTxt K CB fB) (gB : mg "BadKind" = some (.ref CB)) (C1 : Fg P w K mg base "lot_of" k ["value", "size"] gLotOf) : FnOk P w K mg base (L2.CX P w) (k + 1) f fd ["self", "lot"] (spR K (nB CB) (gPartK C)) := by
  refine okR F scPart (fun rs ow d ow' h => ?_) (fun cdv A outer s H E hr rs ow d ow' h => ?_)
  · obtain ⟨n, ns, rfl, _⟩ := h
    rfl
  · obtain ⟨n, ns, rfl, h1, h2, rfl, rfl⟩ := h
    exact ⟨_, psx_cons (psd_set 2 scPart.nd (pd_cg C1 hr (Nat.le_refl _) (padd_cons (pd_var 1) (padd_cons (pd_fld (pd_var 0) T.cl T.size (chF_size n ns)) padd_nil)) ⟨false, n, [], rfl, ⟨.nil, (fun q hq => by cases hq), by decide⟩, h1, h2, rfl, rfl⟩)) (psx_last (pxs_ifT (ptd_not (ptd_truT (pd_var 2) rfl)) rfl (psx_last (pxs_raise rfl (takes_of rfl rfl rfl rfl) (pmk_xB TB gB hr (padd_cons pd_str padd_nil))))))⟩
def gLotManyK : GX := fun rs ow d ow' => ∃ (t : Bool) (m many : Int) (qs : List Int) (x : Str), rs = [.d (sqD t (qs.map D.int)), .d (.int m), .d (.int many), .d (.str x)] ∧ (qs.length : Int) ≠ many ∧ 1 ≤ m ∧ m ≤ 16 ∧ d = .str x ∧ ow' = ow
theorem ok_lotManyK (F : Fun K "lot_of_many" "lot_of_many" sLotMany f fd) (TB : BTxt K CB fB) (gB : mg "BadKind" = some (.ref CB)) (C1 : Fg P w K mg base "check_size" k ["size"] gCheckSize) (mI : mg "isinstance" = none) (mL : mg "list" = none) (mT : mg "tuple" = none) (mN : mg "len" = none) : FnOk P w K mg base (L2.CX P w) (k + 1) f fd ["value", "size", "many", "word"] (spR K (nB CB) gLotManyK) := by
  refine okR F scLotMany (fun rs ow d ow' h => ?_) (fun cdv A outer s H E hr rs ow d ow' h => ?_)
  · obtain ⟨t, m, many, qs, x, rfl, _⟩ := h
    rfl
  · obtain ⟨t, m, many, qs, x, rfl, hne, h1, h2, rfl, rfl⟩ := h
    refine ⟨_, psx_cons (psd_expr (pd_cg C1 hr (Nat.le_refl _) (padd_cons (pd_var 1) padd_nil) ⟨m, rfl, h1, h2, rfl, rfl⟩)) (psx_last (pxs_ifT (ptd_bool (pwd_or (ptd_not (ptd_val (pd_isT2 (n := "list") (m := "tuple") (t := tyS t) mI (padd_cons (pd_var 0) (padd_cons (pd_tup (padd_cons (pd_ty mL) (padd_cons (pd_ty mT) padd_nil))) padd_nil)) (!t) t (tyB_sq t _) (by cases t <;> decide +kernel) (by cases t <;> decide +kernel)))) (fun _ => pwd_or1 (ptd_ne (pd_lenS mN (padd_cons (pd_var 0) padd_nil)) (pd_var 2))))) ?_ (psx_last (pxs_raise rfl (takes_of rfl rfl rfl rfl) (pmk_xB TB gB hr (padd_cons (pd_var 3) padd_nil))))))⟩
    rw [iv_eq, List.length_map, decide_eq_false hne]
    cases t <;> rfl
def gThreeOfK : GX := fun rs ow d ow' => ∃ (t : Bool) (m : Int) (qs : List Int), rs = [.d (sqD t (qs.map D.int)), .d (.int m)] ∧ qs.length ≠ 3 ∧ 1 ≤ m ∧ m ≤ 16 ∧ d = .str "three" ∧ ow' = ow
theorem ok_threeOfK (F : Fun K "three_of" "three_of" sThreeOf f fd) (CX1 : FgX P w K mg base "lot_of_many" k ["value", "size", "many", "word"] (nB CB) gLotManyK) : FnOk P w K mg base (L2.CX P w) (k + 1) f fd ["value", "size"] (spR K (nB CB) gThreeOfK) := by
  refine okR F scThreeOf (fun rs ow d ow' h => ?_) (fun cdv A outer s H E hr rs ow d ow' h => ?_)
  · obtain ⟨t, m, qs, rfl, _⟩ := h
    rfl
  · obtain ⟨t, m, qs, rfl, hne, h1, h2, rfl, rfl⟩ := h
    exact ⟨_, psx_last (pxs_ret (pxe_call CX1 hr (Nat.le_refl _) (takes_of rfl rfl rfl rfl) (padd_cons (pd_var 0) (padd_cons (pd_var 1) (padd_cons pd_int (padd_cons pd_str padd_nil)))) ⟨t, m, 3, qs, _, rfl, by omega, h1, h2, rfl, rfl⟩))⟩
def gSignK (C : Addr) : GX := fun rs ow d ow' => ∃ (t : Bool) (n : Int) (ns qs : List Int), rs = [.d (chartD C n ns), .d (sqD t (qs.map D.int))] ∧ qs.length ≠ 3 ∧ 1 ≤ n ∧ n ≤ 16 ∧ d = .str "three" ∧ ow' = ow
theorem ok_signK (F : Fun K "sign" "Chart.sign" sSign f fd) (T : ChTxt K C) (CX1 : FgX P w K mg base "three_of" k ["value", "size"] (nB CB) gThreeOfK) : FnOk P w K mg base (L2.CX P w) (k + 1) f fd ["self", "names"] (spR K (nB CB) (gSignK C)) := by
  refine okR F scSign (fun rs ow d ow' h => ?_) (fun cdv A outer s H E hr rs ow d ow' h => ?_)
  · obtain ⟨t, n, ns, qs, rfl, _⟩ := h
    rfl
  · obtain ⟨t, n, ns, qs, rfl, hne, h1, h2, rfl, rfl⟩ := h
    exact ⟨_, psx_last (pxs_set 2 scSign.nd (pxe_call CX1 hr (Nat.le_refl _) (takes_of rfl rfl rfl rfl) (padd_cons (pd_var 1) (padd_cons (pd_fld (pd_var 0) T.cl T.size (chF_size n ns)) padd_nil)) ⟨t, n, qs, rfl, hne, h1, h2, rfl, rfl⟩))⟩
def gOrdSignK : GX := fun rs ow d ow' => ∃ x : Str, rs = [.d (.str x)] ∧ d = .str "names" ∧ ow' = ow
theorem ok_ordSignK (F : Fun K "order_sign" "order_sign" sOrdSign f fd) (TB : BTxt K CB fB) (gB : mg "BadKind" = some (.ref CB)) (mI : mg "isinstance" = none) (mL : mg "list" = none) (mT : mg "tuple" = none) : FnOk P w K mg base (L2.CX P w) (k + 1) f fd ["names"] (spR K (nB CB) gOrdSignK) := by
  refine okR F scOrdSign (fun rs ow d ow' h => ?_) (fun cdv A outer s H E hr rs ow d ow' h => ?_)
  · obtain ⟨x, rfl, _⟩ := h
    rfl
  · obtain ⟨x, rfl, rfl, rfl⟩ := h
    exact ⟨_, psx_last (pxs_ifT (ptd_bool (pwd_or (q := true) (ptd_not (ptd_val (pd_isT2 (n := "list") (m := "tuple") (t := "str") mI (padd_cons (pd_var 0) (padd_cons (pd_tup (padd_cons (pd_ty mL) (padd_cons (pd_ty mT) padd_nil))) padd_nil)) false false))) (fun z => nomatch z))) rfl (psx_last (pxs_raise rfl (takes_of rfl rfl rfl rfl) (pmk_xB TB gB hr (padd_cons pd_str padd_nil)))))⟩
def gOrdSignX : GX := fun rs ow d ow' => ∃ (t : Bool) (qs : List Int) (j : Nat), rs = [.d (sqD t (qs.map D.int))] ∧ j < qs.length ∧ qs.length ≤ 20 ∧ (∀ i q, i < j → qs[i]? = some q → q ∉ qs.take i) ∧ (∀ q, qs[j]? = some q → q ∈ qs.take j) ∧ d = .int (qs.getD j 0) ∧ ow' = ow
theorem ok_ordSignX (F : Fun K "order_sign" "order_sign" sOrdSign f fd) (TL : LTxt K CL fL) (gL : mg "BadLine" = some (.ref CL)) (C1 : Fg P w K mg base "is_int" k ["value"] gIsInt) (mI : mg "isinstance" = none) (mL : mg "list" = none) (mT : mg "tuple" = none) (mA : mg "all" = none) (mE : mg "enumerate" = none) : FnOk P w K mg base (L2.CX P w) (k + 1) f fd ["names"] (spR K (nL CL) gOrdSignX) := by
  refine okR F scOrdSign (fun rs ow d ow' h => ?_) (fun cdv A outer s H E hr rs ow d ow' h => ?_)
  · obtain ⟨t, qs, j, rfl, _⟩ := h
    rfl
  · obtain ⟨t, qs, j, rfl, hj, hl, hgood, hbad, rfl, rfl⟩ := h
    refine ⟨osSt t qs (some (.d ((qs.map D.int).getD j .non))) (some (.d (.int (j : Nat)))) none none, psx_skip (bl := false) (ptd_eqB (ptd_bool (pwd_or (ptd_not (ptd_val (pd_isT2 (n := "list") (m := "tuple") (t := tyS t) mI (padd_cons (pd_var 0) (padd_cons (pd_tup (padd_cons (pd_ty mL) (padd_cons (pd_ty mT) padd_nil))) padd_nil)) (!t) t (tyB_sq t _) (by cases t <;> decide +kernel) (by cases t <;> decide +kernel)))) (fun _ => pwd_or1 (ptd_not (ptd_val (pd_all (bs := qs.map fun q => isI (.int q)) rfl mA (padd_cons (pd_eqD (pd_lc (own := [("name", 1)]) qs D.int (fun q => osSt t qs (some (.d (.int q))) none none none) (fun _ => true) (fun q => .bl (isI (.int q)))
      rfl scOrdSign.nd (pid_sq (t := t) (pd_var 0)) (blkOk_by (N := nOrdSign) (sc := defScope sOrdSign) (by decide +kernel)) (by omega) (fun q hq _ H C' cl fp => pgd_name 1 scOrdSign.nd) (fun q hq l _ H C' cl fp => ptsd_nil) (fun q hq _ l _ H C' cl fp => pd_cg C1 hr (Nat.le_refl _) (padd_cons (pd_var 1) padd_nil) ⟨.int q, "int", rfl, rfl, rfl, rfl⟩)) (by rw [List.filter_eq_self.mpr (fun _ _ => rfl), List.map_map]; rfl)) padd_nil))))))) (by rw [all_int]; cases t <;> rfl)) rfl
      (psx_last (pxs_for [1, 2] (fun _ => osSt t qs none none none none) (fun _ => ow') j (fun i => osSt t qs (some (.d ((qs.map D.int).getD i .non))) (some (.d (.int (i : Nat)))) none none) (fun i => .nx (osSt t qs none none none none) ow') (passes_of rfl) rfl (pid_enumS mE (padd_cons (pd_var 0) padd_nil)) ⟨rfl, fun i r h => h⟩ rfl (fun i d hd _ => ?_) (fun i d hd hlt => ?_) (fun d hd => ?_) (fun i hi => .inl rfl) (by rw [enumD_len, List.length_map]; exact hj)))⟩
    · obtain ⟨x, hx, rfl⟩ := enumD_some hd
      rw [getD_of hx]
      exact pgd_tup rfl (pgsd_cons (pgd_name 2 scOrdSign.nd) (pgsd_cons (pgd_name 1 scOrdSign.nd) pgsd_nil))
    · obtain ⟨x, hx, rfl⟩ := enumD_some hd
      rw [getD_of hx]
      obtain ⟨q, hq, rfl⟩ := map_some_of hx
      exact pbd_weak (pbd_skip (ptd_in (ns := qs.take i) (pd_var 1) (pd_slS (t := t) (ds := qs.map D.int) (pd_var 0) pod_none (pod_some (pd_var 2))) (seqL_cut t qs i)) (decide_eq_false (hgood i q hlt hq)) pbd_nil) rfl (by (intro i r h; rcases i with _ | _ | _ | _ | _ | i <;> first | exact h | cases h))
    · obtain ⟨x, hx, rfl⟩ := enumD_some hd
      rw [getD_of hx]
      obtain ⟨q, hq, rfl⟩ := map_some_of hx
      rw [show qs.getD j 0 = q by rw [List.getD_eq_getElem?_getD, hq]; rfl]
      exact psx_last (pxs_ifT (ptd_in (ns := qs.take j) (pd_var 1) (pd_slS (t := t) (ds := qs.map D.int) (pd_var 0) pod_none (pod_some (pd_var 2))) (seqL_cut t qs j)) (decide_eq_true (hbad q hq)) (psx_last (pxs_raise rfl (takes_of rfl rfl rfl rfl) (pmk_xL TL gL hr (padd_cons (pd_var 1) padd_nil)))))
end
end Bl
set_option Elab.async false
set_option linter.all false
set_option maxRecDepth 100000
set_option maxHeartbeats 8000000
namespace Bl
open PySem PySem.Spec PyProof.Rows L2 PySem.Xq
section
variable {P : Program} {w : World} {K : PySem.W.Frag} {mg : Str → Option Value} {base : Heap} {f : Addr} {fd : FuncData} {k : Nat} {C CB CL fB fL : Addr}
abbrev sRefK : Stmt := topS 52
abbrev nRefK : List Str := ["_law_chart", "_law_word", "_law_size_here", "_law_told", "error"]
abbrev pRefK : List Str := ["_law_chart", "_law_word", "_law_size_here"]
theorem scRefK : FnScope nRefK pRefK (defScope sRefK) := ⟨rfl, rfl, rfl, by decide +kernel, rfl, by decide +kernel, by decide +kernel⟩
def dueK (n wd : Int) : D := if wd = 1 then .tup [.str "line", .int 0] else if wd = 2 then .tup [.str "line", .int n] else if wd = 3 then .tup [.str "kind", .str "three"] else if wd = 4 then .tup [.str "line", .int 2] else if wd = 5 then .tup [.str "kind", .str "names"] else .tup [.str "kind", .str "lot"]
def gRefK (C : Addr) : GG := fun rs ow r ow' => ∃ (n : Int) (ns : List Int) (wd : Int), rs = [.d (chartD C n ns), .d (.int wd), .d (.int n)] ∧ 1 ≤ n ∧ n ≤ 7 ∧ 0 ≤ wd ∧ wd ≤ 5 ∧ r = .d (dueK n wd) ∧ ow' = ow
theorem np1' : ¬ (("part" : Str) = "_table") := by decide +kernel
abbrev refS (C : Addr) (n : Int) (ns : List Int) (wd : Int) (t : D) : Sta := [some (.d (chartD C n ns)), some (.d (.int wd)), some (.d (.int n)), some (.d t), none]
theorem ok_refK (F0 : Fun K "_law_refused" "_law_refused" sRefK f fd) (T : ChTxt K C) (TB : BTxt K CB fB) (TL : LTxt K CL fL) (gB : mg "BadKind" = some (.ref CB)) (gL : mg "BadLine" = some (.ref CL)) (hLB : PySem.W.exmOne K (.ref CL) (.ref CB) = some false)
    (M1 : MtX P w K mg base C "part" k ["self", "lot"] (nL CL) (gPartX C)) (M2 : MtX P w K mg base C "part" k ["self", "lot"] (nB CB) (gPartK C)) (M3 : MtX P w K mg base C "sign" k ["self", "names"] (nB CB) (gSignK C)) (C1 : FgX P w K mg base "order_sign" k ["names"] (nL CL) gOrdSignX) (C2 : FgX P w K mg base "order_sign" k ["names"] (nB CB) gOrdSignK) : FnOk P w K mg base CX0 (k + 1) f fd pRefK (spF K (gRefK C)) := by
  refine okF F0 scRefK (fun rs ow r ow' h => ?_) (fun cdv A outer s H E hr rs ow r ow' h => ?_)
  · obtain ⟨n, ns, wd, rfl, _⟩ := h
    rfl
  · obtain ⟨n, ns, wd, rfl, h1, h7, w0, w5, rfl, rfl⟩ := h
    refine pbd_cons (psd_set 3 scRefK.nd (pd_tup (padd_cons pd_str (padd_cons pd_non padd_nil)))) ?_
    refine pbd_cons (st1 := refS C n ns wd (dueK n wd)) (ow1 := ow') ?_ (pbd_last (psd_ret (pd_var 3)))
    have eq_ : ∀ {X : Cx} {st : Sta} {ow : List OB} {a b : Expr} {pos : Pos} {v : Int}, PD X st ow a (.d (.int wd)) ow → PD X st ow b (.d (.int v)) ow → PTD X st ow (.Compare a [.Eq] [b] pos) (decide (wd = v)) ow := fun h1 h2 => ptd_eqB (ptd_eq h1 h2) (by rw [iv_eq])
    have hitB : ∀ {X : Cx} {hds : List ExceptHandler}, (∀ (a : Addr) (oe : Obj) (d : Option Addr) (pn : List (Addr × Obj)), True) → True := fun _ => trivial
    have c6 : wd = 0 ∨ wd = 1 ∨ wd = 2 ∨ wd = 3 ∨ wd = 4 ∨ wd = 5 := by omega
    rcases c6 with rfl | rfl | rfl | rfl | rfl | rfl
    · refine psd_tryW (n := nB CB) (w := "kind") (d := .str "lot") (st1 := refS C n ns 0 (.tup [.str "taken", .non])) (ow1 := ow') 4 3 rfl rfl scRefK.nd rfl rfl (by show 4 < 5; decide) (by decide)
        (fun W pn xe tk _ => psx_last (pxs_ifT (eq_ (pd_var 1) pd_int) rfl (psx_last (pxs_expr (pxe_mt M2 (pd_var 0) T.cl hr (Nat.le_refl _) tk (padd_cons (pd_lst padd_nil) padd_nil) (chF_no n ns np1 np2 np3 np4) ⟨n, ns, rfl, h1, by omega, rfl, rfl⟩)))))
        (.hit ⟨rfl, by decide, .inl gB⟩ TB.te (fun a oe d pn hz hf => pss_one (ps_set (i := 3) scRefK.nd rfl (Or.inl rfl) (pe_tup (pa_cons pe_str (pa_cons (pe_wordB TB hz hf (pv 4)) pa_nil))))))
    · refine psd_tryW (n := nL CL) (w := "line") (d := .int 0) (st1 := refS C n ns 1 (.tup [.str "taken", .non])) (ow1 := ow') 4 3 rfl rfl scRefK.nd rfl rfl (by show 4 < 5; decide) (by decide)
        (fun W pn xe tk _ => psx_last (pxs_ifF (eq_ (pd_var 1) pd_int) rfl (psx_last (pxs_ifT (eq_ (pd_var 1) pd_int) rfl (psx_last (pxs_expr (pxe_mt M1 (pd_var 0) T.cl hr (Nat.le_refl _) tk (padd_cons (pd_lst (padd_cons pd_int (padd_cons pd_int padd_nil))) padd_nil) (chF_no n ns np1 np2 np3 np4) ⟨false, n, ns, [0, 0], 1, rfl, ⟨by decide, fun i q hi hq => ?_, fun q hq => ?_⟩, h1, by omega, rfl, rfl⟩)))))))
        (.miss ⟨rfl, by decide, .inl gB⟩ hLB (.hit ⟨rfl, by decide, .inl gL⟩ TL.te (fun a oe d pn hz hf => pss_one (ps_set (i := 3) scRefK.nd rfl (Or.inl rfl) (pe_tup (pa_cons pe_str (pa_cons (pe_lineL TL hz hf (pv 4)) pa_nil)))))))
      · obtain rfl : i = 0 := by omega
        cases hq
        exact ⟨⟨by omega, by omega⟩, by simp⟩
      · cases hq
        exact .inr (by decide)
    · refine psd_tryW (n := nL CL) (w := "line") (d := .int n) (st1 := refS C n ns 2 (.tup [.str "taken", .non])) (ow1 := ow') 4 3 rfl rfl scRefK.nd rfl rfl (by show 4 < 5; decide) (by decide)
        (fun W pn xe tk _ => psx_last (pxs_ifF (eq_ (pd_var 1) pd_int) rfl (psx_last (pxs_ifF (eq_ (pd_var 1) pd_int) rfl (psx_last (pxs_ifT (eq_ (pd_var 1) pd_int) rfl (psx_last (pxs_expr (pxe_mt M1 (pd_var 0) T.cl hr (Nat.le_refl _) tk (padd_cons (pd_tup (padd_cons pd_int (padd_cons (pd_var 2) padd_nil))) padd_nil) (chF_no n ns np1 np2 np3 np4) ⟨true, n, ns, [0, n], 1, rfl, ⟨by show 1 < 2; decide, fun i q hi hq => ?_, fun q hq => ?_⟩, h1, by omega, rfl, rfl⟩)))))))))
        (.miss ⟨rfl, by decide, .inl gB⟩ hLB (.hit ⟨rfl, by decide, .inl gL⟩ TL.te (fun a oe d pn hz hf => pss_one (ps_set (i := 3) scRefK.nd rfl (Or.inl rfl) (pe_tup (pa_cons pe_str (pa_cons (pe_lineL TL hz hf (pv 4)) pa_nil)))))))
      · obtain rfl : i = 0 := by omega
        cases hq
        exact ⟨⟨by omega, by omega⟩, by simp⟩
      · cases hq
        exact .inl (by omega)
    · exact psd_tryW (n := nB CB) (w := "kind") (d := .str "three") (st1 := refS C n ns 3 (.tup [.str "taken", .non])) (ow1 := ow') 4 3 rfl rfl scRefK.nd rfl rfl (by show 4 < 5; decide) (by decide)
        (fun W pn xe tk _ => psx_last (pxs_ifF (eq_ (pd_var 1) pd_int) rfl (psx_last (pxs_ifF (eq_ (pd_var 1) pd_int) rfl (psx_last (pxs_ifF (eq_ (pd_var 1) pd_int) rfl (psx_last (pxs_ifT (eq_ (pd_var 1) pd_int) rfl (psx_last (pxs_expr (pxe_mt M3 (pd_var 0) T.cl hr (Nat.le_refl _) tk (padd_cons (pd_tup (padd_cons pd_int (padd_cons pd_int padd_nil))) padd_nil) (chF_no n ns ns1' ns2' ns3' ns4') ⟨true, n, ns, [0, 1], rfl, by decide, h1, by omega, rfl, rfl⟩)))))))))))
        (.hit ⟨rfl, by decide, .inl gB⟩ TB.te (fun a oe d pn hz hf => pss_one (ps_set (i := 3) scRefK.nd rfl (Or.inl rfl) (pe_tup (pa_cons pe_str (pa_cons (pe_wordB TB hz hf (pv 4)) pa_nil))))))
    · refine psd_tryW (n := nL CL) (w := "line") (d := .int 2) (st1 := refS C n ns 4 (.tup [.str "taken", .non])) (ow1 := ow') 4 3 rfl rfl scRefK.nd rfl rfl (by show 4 < 5; decide) (by decide)
        (fun W pn xe tk _ => psx_last (pxs_ifF (eq_ (pd_var 1) pd_int) rfl (psx_last (pxs_ifF (eq_ (pd_var 1) pd_int) rfl (psx_last (pxs_ifF (eq_ (pd_var 1) pd_int) rfl (psx_last (pxs_ifF (eq_ (pd_var 1) pd_int) rfl (psx_last (pxs_ifT (eq_ (pd_var 1) pd_int) rfl (psx_last (pxs_expr (pxe_call C1 hr (Nat.le_refl _) tk (padd_cons (pd_lst (padd_cons pd_int (padd_cons pd_int (padd_cons pd_int (padd_cons pd_int padd_nil))))) padd_nil) ⟨false, [4, 2, 7, 2], 3, rfl, by decide, by decide, fun i q hi hq => ?_, fun q hq => ?_, rfl, rfl⟩)))))))))))))
        (.miss ⟨rfl, by decide, .inl gB⟩ hLB (.hit ⟨rfl, by decide, .inl gL⟩ TL.te (fun a oe d pn hz hf => pss_one (ps_set (i := 3) scRefK.nd rfl (Or.inl rfl) (pe_tup (pa_cons pe_str (pa_cons (pe_lineL TL hz hf (pv 4)) pa_nil)))))))
      · have : i = 0 ∨ i = 1 ∨ i = 2 := by omega
        rcases this with rfl | rfl | rfl <;> (cases hq; decide)
      · cases hq
        decide
    · exact psd_tryW (n := nB CB) (w := "kind") (d := .str "names") (st1 := refS C n ns 5 (.tup [.str "taken", .non])) (ow1 := ow') 4 3 rfl rfl scRefK.nd rfl rfl (by show 4 < 5; decide) (by decide)
        (fun W pn xe tk _ => psx_last (pxs_ifF (eq_ (pd_var 1) pd_int) rfl (psx_last (pxs_ifF (eq_ (pd_var 1) pd_int) rfl (psx_last (pxs_ifF (eq_ (pd_var 1) pd_int) rfl (psx_last (pxs_ifF (eq_ (pd_var 1) pd_int) rfl (psx_last (pxs_ifF (eq_ (pd_var 1) pd_int) rfl (psx_last (pxs_expr (pxe_call C2 hr (Nat.le_refl _) tk (padd_cons pd_str padd_nil) ⟨_, rfl, rfl, rfl⟩)))))))))))))
        (.hit ⟨rfl, by decide, .inl gB⟩ TB.te (fun a oe d pn hz hf => pss_one (ps_set (i := 3) scRefK.nd rfl (Or.inl rfl) (pe_tup (pa_cons pe_str (pa_cons (pe_wordB TB hz hf (pv 4)) pa_nil))))))
abbrev sFaultK : Stmt := topS 53
abbrev nFaultK : List Str := ["_law_chart", "_law_word", "_law_size_here", "_law_due"]
theorem scFaultK : FnScope nFaultK pRefK (defScope sFaultK) := ⟨rfl, rfl, rfl, by decide +kernel, rfl, by decide +kernel, by decide +kernel⟩
abbrev fkS (C : Addr) (n : Int) (ns : List Int) (wd : Int) (t : D) : Sta := [some (.d (chartD C n ns)), some (.d (.int wd)), some (.d (.int n)), some (.d t)]
theorem ok_faultK (F0 : Fun K "_law_fault_kept" "_law_fault_kept" sFaultK f fd) (C1 : Fg P w K mg base "_law_refused" k pRefK (gRefK C)) : FnOk P w K mg base CX0 (k + 1) f fd pRefK (spF K (gFaultK C)) := by
  refine okF F0 scFaultK (fun rs ow r ow' h => ?_) (fun cdv A outer s H E hr rs ow r ow' h => ?_)
  · obtain ⟨n, F, wd, rfl, _⟩ := h
    rfl
  · obtain ⟨n, F, wd, rfl, h1, h7, w0, w5, rfl, rfl⟩ := h
    have hu := room_u64 hr
    generalize cns n F = ns
    have eq_ : ∀ {X : Cx} {st : Sta} {ow : List OB} {a b : Expr} {pos : Pos} {v : Int}, PD X st ow a (.d (.int wd)) ow → PD X st ow b (.d (.int v)) ow → PTD X st ow (.Compare a [.Eq] [b] pos) (decide (wd = v)) ow := fun h1 h2 => ptd_eqB (ptd_eq h1 h2) (by rw [iv_eq])
    have step : ∀ {X : Cx} {tb : List Stmt} {c : Expr} {rest : List Stmt} {pos : Pos} {out : Out} {v : Int} {d1 d2 : D}, PTD X (fkS C n ns wd d1) ow' c (decide (wd = v)) ow' → PBD X (fkS C n ns wd d1) ow' tb (.nx (fkS C n ns wd d2) ow') → PBD X (fkS C n ns wd (if wd = v then d2 else d1)) ow' rest out → PBD X (fkS C n ns wd d1) ow' (.If c tb [] pos :: rest) out := fun {X tb c rest pos out v d1 d2} hc h1 h2 => by
      refine pbd_cons (psd_if hc (fun hb => ?_) (fun hb => ?_)) h2
      · rw [if_pos (of_decide_eq_true hb)]; exact h1
      · rw [if_neg (of_decide_eq_false hb)]; exact pbd_nil
    refine pbd_cons (psd_set 3 scFaultK.nd (pd_tup (padd_cons pd_str (padd_cons pd_str padd_nil)))) ?_
    refine step (eq_ (pd_var 1) pd_int) (pbd_cons (psd_set 3 scFaultK.nd (pd_tup (padd_cons pd_str (padd_cons pd_int padd_nil)))) pbd_nil) ?_
    refine step (eq_ (pd_var 1) pd_int) (pbd_cons (psd_set 3 scFaultK.nd (pd_tup (padd_cons pd_str (padd_cons (pd_var 2) padd_nil)))) pbd_nil) ?_
    refine step (eq_ (pd_var 1) pd_int) (pbd_cons (psd_set 3 scFaultK.nd (pd_tup (padd_cons pd_str (padd_cons pd_str padd_nil)))) pbd_nil) ?_
    refine step (eq_ (pd_var 1) pd_int) (pbd_cons (psd_set 3 scFaultK.nd (pd_tup (padd_cons pd_str (padd_cons pd_int padd_nil)))) pbd_nil) ?_
    refine step (eq_ (pd_var 1) pd_int) (pbd_cons (psd_set 3 scFaultK.nd (pd_tup (padd_cons pd_str (padd_cons pd_str padd_nil)))) pbd_nil) ?_
    have fin : ∀ {p : PyData}, pyD (dueK n wd) = some p → SeqAt.shaped p = true → PyData.eqv p p = true → ∀ {d : D}, d = dueK n wd → PBD (cxOf CX0 P w K mg base nFaultK "_law_fault_kept" (defScope sFaultK) f cdv A outer s H E).nox (fkS C n ns wd d) ow' [(defBody sFaultK).getLast!] (.ret (.d (.bl true)) ow') := fun {p} hp hs he {d} hd => by
      subst hd
      exact pbd_last (psd_ret (pd_eqB (pd_cmp (op_eqD hu) (nomark _) (rd_eqP hp hp hs hs) (pd_cg C1 hr (Nat.le_refl _) (padd_cons (pd_var 0) (padd_cons (pd_var 1) (padd_cons (pd_var 2) padd_nil))) ⟨n, ns, wd, rfl, h1, h7, w0, w5, rfl, rfl⟩) (pd_var 3)) he))
    have c6 : wd = 0 ∨ wd = 1 ∨ wd = 2 ∨ wd = 3 ∨ wd = 4 ∨ wd = 5 := by omega
    rcases c6 with rfl | rfl | rfl | rfl | rfl | rfl
    · exact fin rfl (by decide +kernel) (by decide +kernel) rfl
    · exact fin rfl (by decide +kernel) (by decide +kernel) rfl
    · exact fin (p := .tuple [.str "line", .int n]) rfl (by simp [SeqAt.shaped, PyData.canLay0, PyData.canLayAll0, PyData.depth, PyData.depthAll]; decide +kernel) (by simp [PyData.eqv, PyData.eqvAll]) rfl
    · exact fin rfl (by decide +kernel) (by decide +kernel) rfl
    · exact fin rfl (by decide +kernel) (by decide +kernel) rfl
    · exact fin rfl (by decide +kernel) (by decide +kernel) rfl
end
end Bl
set_option Elab.async false
set_option linter.all false
set_option maxRecDepth 100000
set_option maxHeartbeats 16000000
namespace Bl
open PySem PySem.Spec PyProof.Rows L2 PySem.Xq
/-! ### a chart of five or more lines is sound exactly if its parts without one line are -/
theorem fours_fact {n : Int} (h5 : 5 ≤ n) (h7 : n ≤ 7) : (∀ x ∈ rngZ n, ∀ q ∈ sub4 (rngZ (n - 1)), q.map (gI (othersZ n x)) ∈ sub4 (rngZ n)) ∧ (∀ q ∈ sub4 (rngZ n), ∃ x ∈ rngZ n, ∃ p ∈ sub4 (rngZ (n - 1)), p.map (gI (othersZ n x)) = q) := by
  have : n = 5 ∨ n = 6 ∨ n = 7 := by omega
  rcases this with rfl | rfl | rfl
  · refine ⟨?_, ?_⟩ <;> decide +kernel
  · refine ⟨?_, ?_⟩ <;> decide +kernel
  · refine ⟨?_, ?_⟩ <;> decide +kernel
def sndB (n : Int) (F : List Int → Int) : Bool := nonD (optD (badF n (cns n F)))
theorem snd_iff {n : Int} {F : List Int → Int} (h0 : 0 ≤ n) (h7 : n ≤ 7) (hF : SgnF F) : sndB n F = true ↔ ∀ q ∈ sub4 (rngZ n), goodW (rowF F q) = true := by
  unfold sndB
  rw [← badW_eq h0 h7 hF, nonD_opt]
  unfold badW
  rw [Bool.not_eq_true', Option.isSome_eq_false_iff, Option.isNone_iff_eq_none, List.find?_eq_none]
  constructor
  · intro h q hq
    have := h q hq
    simpa using this
  · intro h q hq
    simp [h q hq]
theorem rowF_FP (F : List Int → Int) (lot : List Int) {q : List Int} (hq : ∃ i j k m, q = [i, j, k, m]) : rowF (FP F lot) q = rowF F (q.map (gI lot)) := by
  obtain ⟨i, j, k, m, rfl⟩ := hq
  rfl
theorem sound_parts {n : Int} {F : List Int → Int} (h5 : 5 ≤ n) (h7 : n ≤ 7) (hF : SgnF F) : sndB n F = (rngZ n).all fun x => sndB (n - 1) (FP F (othersZ n x)) := by
  obtain ⟨f1, f2⟩ := fours_fact h5 h7
  have form : ∀ q ∈ sub4 (rngZ (n - 1)), ∃ i j k m, q = [i, j, k, m] := fun q hq => by
    obtain ⟨i, j, k, m, e, _⟩ := sub4_form (by omega) (by omega) hq
    exact ⟨i, j, k, m, e⟩
  rw [Bool.eq_iff_iff, List.all_eq_true, snd_iff (by omega) h7 hF]
  constructor
  · intro h x hx
    rw [snd_iff (by omega) (by omega) (FP_sgn hF)]
    intro q hq
    rw [rowF_FP F _ (form q hq)]
    exact h _ (f1 x hx q hq)
  · intro h q hq
    obtain ⟨x, hx, p, hp, rfl⟩ := f2 q hq
    have := (snd_iff (by omega) (by omega) (FP_sgn hF)).mp (h x hx) p hp
    rw [rowF_FP F _ (form p hp)] at this
    exact this
theorem flat_opt (o : Option (List Int)) : FlatD (optD o) := by
  cases o with
  | none => exact .non
  | some q => exact .tup q
theorem noIow1 (a : List Int) : NoIow [.l (a.map D.int)] := fun l hl => by
  rw [List.mem_singleton.mp hl]
  exact noIs_ints a
def sndStep (n : Int) (F : List Int → Int) (s : Bool) (x : Int) : Bool := s && sndB (n - 1) (FP F (othersZ n x))
theorem snd_fold (n : Int) (F : List Int → Int) : ∀ (l : List Int) (s : Bool), l.foldl (sndStep n F) s = (s && l.all fun x => sndB (n - 1) (FP F (othersZ n x)))
  | [], s => by simp
  | a :: l, s => by
    rw [List.foldl_cons, snd_fold n F l]
    unfold sndStep
    rw [List.all_cons, Bool.and_assoc]
section
variable {P : Program} {w : World} {K : PySem.W.Frag} {mg : Str → Option Value} {base : Heap} {f fG : Addr} {fd fdG : FuncData} {k : Nat} {C : Addr} {psG : List Str}
abbrev sLaw : Stmt := topS 58
abbrev nLaw : List Str := ["_law_script", "_law_pool_here", "_law_size_here", "_law_word", "_law_widest", "_law_table_here", "_law_chart", "_law_turn", "_law_parts", "_law_good_here", "_law_x", "_law_line", "_law_told"]
theorem scLaw : FnScope nLaw ["_law_script"] (defScope sLaw) := ⟨rfl, rfl, rfl, by decide +kernel, rfl, by decide +kernel, by decide +kernel⟩
def gLaw : GG := fun rs ow r ow' => ∃ ss : List Int, rs = [.d (.lst (ss.map D.int))] ∧ ss.length ≤ 63 ∧ ow = [] ∧ r = .d (.bl true) ∧ ow' = []
abbrev lwS (C : Addr) (ss : List Int) (n wd wi : Int) (F : List Int → Int) (t p g x l o : Option R) : Sta := [some (.d (.lst (ss.map D.int))), some (.own 0), some (.d (.int n)), some (.d (.int wd)), some (.d (.int wi)), some (.d (tabD' n F)), some (.d (chartD C n (cns n F))), t, p, g, x, l, o]
theorem ok_law (F0 : Fun K "law" "law" sLaw f fd) (T : ChTxt K C) (M : Mk K C fG) (GI : FnOk P w K mg base CX0 k fG fdG psG (spI K C gInit)) (mC : mg "Chart" = some (.ref C)) (bI : Binds K fdG psG [])
    (Cp : Fg P w K mg base "_law_pool" (k + 1) ["_law_script"] gPool) (Cs : Fg P w K mg base "_law_size" (k + 1) ["_law_pool_here", "_law_least", "_law_most"] gSize) (Cn : Fg P w K mg base "_law_next" (k + 1) ["_law_pool_here", "_law_many"] gNext) (Cu : Fg P w K mg base "_law_turns" (k + 1) ["_law_pool_here", "_law_size_here", "_law_widest"] gTurns) (Ct : Fg P w K mg base "_law_table" (k + 1) ["_law_size_here", "_law_turns_here"] gTable)
    (Co : Fg P w K mg base "_law_spoil" (k + 1) ["_law_pool_here", "_law_size_here", "_law_table_here"] gSpoil) (Cb : Fg P w K mg base "_law_bad_four" (k + 1) ["_law_size_here", "_law_table_here"] gBad4) (Cg : Fg P w K mg base "_law_signs" (k + 1) ["_law_size_here", "_law_table_here"] gSigns)
    (Cl : Fg P w K mg base "_law_lot_kept" (k + 1) pLotK (gLotK C)) (Cr : Fg P w K mg base "_law_orders_kept" (k + 1) pOrdK (gOrdK C)) (Cv : Fg P w K mg base "_law_leavings" (k + 1) ["_law_size_here", "_law_table_here"] gLeav) (Cq : Fg P w K mg base "_law_glued_kept" (k + 1) pGlu (gGlued C)) (Cf : Fg P w K mg base "_law_fault_kept" (k + 1) pRefK (gFaultK C))
    (Mp : Mt P w K mg base C "part" (k + 1) ["self", "lot"] (gPart C)) (Ps : Pt P w K mg base C "sound" k ["self"] (gSound C)) (mR : mg "range" = none) (mI : mg "int" = none) : FnOk P w K mg base CX0 (k + 2) f fd ["_law_script"] (spF K gLaw) := by
  refine okF F0 scLaw (fun rs ow r ow' h => ?_) (fun cdv A outer s H E hr rs ow r ow' h => ?_)
  · obtain ⟨ss, rfl, _⟩ := h
    rfl
  · obtain ⟨ss, rfl, hl, rfl, rfl, rfl⟩ := h
    have hu := room_u hr
    obtain ⟨n, hn⟩ : ∃ n, n = sizeZ (poolZ ss) 1 6 := ⟨_, rfl⟩
    obtain ⟨n1, n6⟩ : 1 ≤ n ∧ n ≤ 6 := by
      rw [hn]
      unfold sizeZ
      split
      · omega
      · have h1 := Int.emod_nonneg (nextV (poolZ ss) 12) (show (5 : Int) ≠ 0 by decide)
        have h2 := Int.emod_lt_of_pos (nextV (poolZ ss) 12) (show (0 : Int) < 5 by decide)
        rw [if_pos (show (6 : Int) - 1 > 1 by decide), show (6 : Int) - 1 = 5 by decide]
        omega
    obtain ⟨p1, hp1⟩ : ∃ p1, p1 = (poolZ ss).dropLast := ⟨_, rfl⟩
    obtain ⟨wd, hwd⟩ : ∃ wd, wd = nextV p1 6 := ⟨_, rfl⟩
    have hwr := nextV_rng p1 (show (0 : Int) < 6 by decide)
    rw [← hwd] at hwr
    obtain ⟨p2, hp2⟩ : ∃ p2, p2 = p1.dropLast := ⟨_, rfl⟩
    obtain ⟨wi, hwi⟩ : ∃ wi, wi = if wd % 2 = 1 then n else 2 := ⟨_, rfl⟩
    obtain ⟨tz, htz⟩ : ∃ tz, tz = turnsZ n wi p2 := ⟨_, rfl⟩
    have tcov := turns_cov (n := n) (by omega) wi p2
    have tlen := (turns_ok (n := n) (by omega) wi p2).len
    rw [← htz] at tcov tlen
    have hnn : (n * n).toNat ≤ 100 := by
      have : n = 1 ∨ n = 2 ∨ n = 3 ∨ n = 4 ∨ n = 5 ∨ n = 6 := by omega
      rcases this with rfl | rfl | rfl | rfl | rfl | rfl <;> decide
    obtain ⟨F1, hF1⟩ : ∃ F1, F1 = sgT (timesZ (rngZ n) tz.ts) := ⟨_, rfl⟩
    have sF1 : SgnF F1 := by rw [hF1]; exact sgT_rng _
    obtain ⟨sp, hsp⟩ : ∃ sp, sp = spoilZ n tz.ps F1 := ⟨_, rfl⟩
    obtain ⟨F, hF⟩ : ∃ F, F = sp.2 := ⟨_, rfl⟩
    have sF : SgnF F := by rw [hF, hsp]; exact spoil_sgn n _ sF1
    obtain ⟨pq, hpq⟩ : ∃ pq, pq = (mixZ ((rngZ 3).foldl (fun ps (_ : Int) => lotKps n ps) sp.1) seven).ps.dropLast := ⟨_, rfl⟩
    obtain ⟨pe, hpe⟩ : ∃ pe, pe = if 5 ≤ n then (gluZ n pq (fun x => FP F (othersZ n x))).1 else pq := ⟨_, rfl⟩
    refine pbd_dropN (ow1 := []) (bs := [.l (pe.map D.int)]) ?_ rfl
    refine pbd_cons (psd_set 1 scLaw.nd (pd_cg Cp hr (Nat.le_refl _) (padd_cons (pd_var 0) padd_nil) ⟨ss, rfl, hl, rfl, rfl⟩)) ?_
    refine pbd_cons (psd_set 2 scLaw.nd (pd_cg Cs hr (Nat.le_refl _) (pad_cons (pd_var 1) (padd_cons pd_int (padd_cons pd_int padd_nil))) ⟨0, 1, 6, poolZ ss, rfl, rfl, rfl, rfl⟩)) ?_
    rw [← hn, ← hp1]
    refine pbd_cons (psd_set 3 scLaw.nd (pd_cg Cn hr (Nat.le_refl _) (pad_cons (pd_var 1) (padd_cons pd_int padd_nil)) ⟨0, 6, p1, rfl, rfl, by decide, rfl, rfl⟩)) ?_
    rw [← hwd, ← hp2]
    refine pbd_cons (psd_set 4 scLaw.nd pd_int) ?_
    refine pbd_cons (st1 := [some (.d (.lst (ss.map D.int))), some (.own 0), some (.d (.int n)), some (.d (.int wd)), some (.d (.int wi)), none, none, none, none, none, none, none, none]) (ow1 := [.l (p2.map D.int)]) (psd_if (ptd_eq (pd_mod (pd_int1 mI (padd_cons (pd_var 3) padd_nil)) pd_int (by decide)) pd_int) (fun hb => ?_) (fun hb => ?_)) ?_
    · rw [iv_eq] at hb
      rw [hwi, if_pos (of_decide_eq_true hb)]
      exact pbd_cons (psd_set 4 scLaw.nd (pd_var 2)) pbd_nil
    · rw [iv_eq] at hb
      rw [hwi, if_neg (of_decide_eq_false hb)]
      exact pbd_nil
    refine pbd_frz2B (ow1 := [.l (sp.1.map D.int)]) (b := .t (tabI (tabF n F))) (dd := tabD' n F) (stB := [some (.d (.lst (ss.map D.int))), some (.own 0), some (.d (.int n)), some (.d (.int wd)), some (.d (.int wi)), some (.own 1), none, none, none, none, none, none, none])
      (psd_set 5 scLaw.nd (pd_cg Ct hr (Nat.le_refl _) (padd_cons (pd_var 2) (padd_cons (pd_cg Cu hr (Nat.le_refl _) (pad_cons (pd_var 1) (padd_cons (pd_var 2) (padd_cons (pd_var 4) padd_nil))) ⟨0, n, wi, p2, rfl, rfl, by omega, by omega, rfl, rfl⟩) padd_nil)) ⟨n, tz.ts, by rw [htz]; rfl, by omega, by omega, by omega, cov_of tcov, rfl, rfl⟩))
      (psd_eqO (psd_expr (pd_cg Co hr (Nat.le_refl _) (pad_cons (pd_var 1) (pad_cons (pd_var 2) (pad_cons (pd_var 5) pad_nil))) ⟨0, 1, n, tz.ps, F1, rfl, by decide, by rw [htz]; rfl, by rw [hF1]; rfl, by omega, by omega, rfl, rfl⟩)) (by rw [hF, ← hsp]; rfl)) rfl .t ?_ ⟨fun gs h => by simp at h, fun gs h => by simp at h⟩
    have eU : unD [OB.l (sp.1.map D.int)].length (tabD' n F) ([some (.d (.lst (ss.map D.int))), some (.own 0), some (.d (.int n)), some (.d (.int wd)), some (.d (.int wi)), some (.own 1), none, none, none, none, none, none, none] : Sta) = [some (.d (.lst (ss.map D.int))), some (.own 0), some (.d (.int n)), some (.d (.int wd)), some (.d (.int wi)), some (.d (tabD' n F)), none, none, none, none, none, none, none] := rfl
    refine pbd_eqS eU.symm ?_
    refine pbd_cons (psd_set 6 scLaw.nd (pd_make M GI (hr.mono (Nat.le_refl _)) mC bI (padd_cons (pd_var 2) (padd_cons (pd_cg Cg hr (Nat.le_refl _) (padd_cons (pd_var 2) (padd_cons (pd_var 5) padd_nil)) ⟨n, F, rfl, by omega, by omega, rfl, rfl⟩) padd_nil)) ⟨n, .d (.lst ((cns n F).map D.int)), cns n F, rfl, .inr ⟨false, rfl⟩, n1, by omega, by unfold cns; rw [List.length_map], fun v hv => by
      obtain ⟨q, _, rfl⟩ := List.mem_map.mp hv
      exact sF q, noIow1 _, rfl, rfl⟩)) ?_
    show PBD _ (lwS C ss n wd wi F none none none none none none) [OB.l (sp.1.map D.int)] _ _
    refine pbd_cons (psd_forF [7] (rngZ 3) D.int sp.1 (fun ps (_ : Int) => lotKps n ps) (fun _ => lwS C ss n wd wi F none none none none none none) (fun _ x => lwS C ss n wd wi F (some (.d (.int x))) none none none none none) (fun ps => [.l (ps.map D.int)]) PassesOwn.never rfl
      (pid_eq (pid_range1 mR (padd_cons pd_int padd_nil) (by decide)) (rngD_Z 3)) ⟨rfl, fun i r h => h⟩ rfl (fun l x r hl => pgd_name 7 scLaw.nd) (fun l x r hl => ?_)) ?_
    · generalize l.foldl (fun ps (_ : Int) => lotKps n ps) sp.1 = ps
      exact pbd_weak (st1 := lwS C ss n wd wi F (some (.d (.int x))) none none none none none) (pbd_skip (ptd_not (ptd_val (pd_cg Cl hr (Nat.le_refl _) (pad_cons (pd_var 1) (padd_cons (pd_var 6) (padd_cons (pd_var 2) (padd_cons (pd_var 5) padd_nil)))) ⟨0, ps, n, F, rfl, rfl, n1, by omega, sF, noIow1 _, rfl, rfl⟩))) rfl pbd_nil) rfl (by (intro i r h; rcases i with _ | _ | _ | _ | _ | _ | _ | _ | _ | _ | _ | _ | _ | i <;> first | exact h | cases h))
    refine pbd_skip (ptd_not (ptd_val (pd_cg Cr hr (Nat.le_refl _) (pad_cons (pd_var 1) (padd_cons (pd_var 6) (padd_cons (pd_var 2) (padd_cons (pd_var 5) padd_nil)))) ⟨0, _, n, F, rfl, rfl, n1, by omega, sF, rfl, rfl⟩))) rfl ?_
    show PBD _ (lwS C ss n wd wi F none none none none none none) [OB.l ((mixZ ((rngZ 3).foldl (fun ps (_ : Int) => lotKps n ps) sp.1) seven).ps.dropLast.map D.int)] _ _
    rw [← hpq]
    by_cases h5 : 5 ≤ n
    · rw [if_pos h5] at hpe
      obtain ⟨m, hm⟩ : ∃ m, m = n.toNat := ⟨_, rfl⟩
      have hno : NoIow [OB.l (pq.map D.int)] := noIow1 pq
      refine pbd_dropN (ow1 := [.l (pe.map D.int)]) (bs := .r (gsP 2 m) :: prts n (gluZ n pq (fun x => FP F (othersZ n x))).2 m) ?_ rfl ⟨fun gs h => by simp at h, fun gs h => by simp at h⟩
      have hfk : ∀ {X : Cx} {ow : List OB} {t p g x l o : Option R}, True := trivial
      refine pbd_cons (st1 := lwS C ss n wd wi F none none none none none none) (ow1 := lvO [.l (pe.map D.int)] 2 n (gluZ n pq (fun x => FP F (othersZ n x))).2 m) (psd_ifT (ptd_ge (pd_var 2) pd_int) (decide_eq_true h5) ?_) ?_
      · refine pbd_weak (st1 := lwS C ss n wd wi F none (some (.own 1)) (some (.d (.bl (sndB n F)))) none none none) ?_ rfl (by (intro i r h; rcases i with _ | _ | _ | _ | _ | _ | _ | _ | _ | _ | _ | _ | _ | i <;> first | exact h | cases h))
        refine pbd_cons (psd_set 8 scLaw.nd (pd_cg Cv hr (Nat.le_refl _) (padd_cons (pd_var 2) (padd_cons (pd_var 5) padd_nil)) ⟨n, F, rfl, by omega, by omega, rfl, rfl⟩)) ?_
        rw [← hm]
        show PBD _ (lwS C ss n wd wi F none (some (.own 1)) none none none none) (lvO [OB.l (pq.map D.int)] 2 n (fun x => FP F (othersZ n x)) m) _ _
        refine pbd_cons (psd_set 9 scLaw.nd pd_bl) ?_
        have hend : (rngZ n).foldl (sndStep n F) true = sndB n F := by rw [snd_fold, sound_parts h5 (by omega) sF, Bool.true_and]
        refine pbd_cons (psd_forF [10] (rngZ n) D.int true (sndStep n F) (fun s => lwS C ss n wd wi F none (some (.own 1)) (some (.d (.bl s))) none none none) (fun s x => lwS C ss n wd wi F none (some (.own 1)) (some (.d (.bl s))) (some (.d (.int x))) none none) (fun _ => lvO [OB.l (pq.map D.int)] 2 n (fun x => FP F (othersZ n x)) m) PassesOwn.never rfl
          (pid_eq (pid_range1 mR (padd_cons (pd_var 2) padd_nil) (by omega)) (rngD_Z n)) ⟨rfl, fun i r h => h⟩ rfl (fun l x r hl => pgd_name 10 scLaw.nd) (fun l x r hl => ?_)) ?_
        · obtain ⟨hx, hlt⟩ := rngZ_at hl
          have hxm := (pre_mem hl).1
          generalize l.foldl (sndStep n F) true = sm
          have hln := others_lenE (n := n) (by omega) (by omega) hxm
          have hne : othersZ n x ≠ [] := fun z => by rw [z] at hln; simp at hln; omega
          have nol := noIow_lv (b := 2) (n := n) (Gs := fun x => FP F (othersZ n x)) (m := m) hno
          have hps := part_spec (C := C) (t := false) (F := F) (lot := othersZ n x) (qs := othersZ n x) (lvO [OB.l (pq.map D.int)] 2 n (fun x => FP F (othersZ n x)) m) n1 (by omega) sF (others_A (by omega)) (.refl _) hne nol
          rw [hln] at hps
          have sG : SgnF (FP F (othersZ n x)) := FP_sgn sF
          obtain ⟨G, hG⟩ : ∃ G, G = FP F (othersZ n x) := ⟨_, rfl⟩
          have hpg : (lvO [OB.l (pq.map D.int)] 2 n (fun x => FP F (othersZ n x)) m)[2 + l.length]? = some (.t (tabI (tabF (n - 1) G))) := by
            rw [lv_p0 (ow := [OB.l (pq.map D.int)]) (b := 2) rfl (by omega), ← hx, hG]; rfl
          have est : sndStep n F sm x = (sm && sndB (n - 1) G) := by unfold sndStep; rw [hG]
          rw [est]
          rw [← hG] at hps sG
          refine pbd_cons (psd_set 12 scLaw.nd (pd_pt Ps (pd_mt Mp (pd_var 6) T.cl hr (Nat.le_refl _) (padd_cons (pd_eqD (d' := .lst ((othersZ n x).map D.int)) (pd_lc (own := [("_law_line", 11)]) (rngZ n) D.int (fun y => lwS C ss n wd wi F none (some (.own 1)) (some (.d (.bl sm))) (some (.d (.int x))) (some (.d (.int y))) none) (fun y => !decide (V.int y = V.int x)) D.int
            rfl scLaw.nd (pid_eq (pid_range1 mR (padd_cons (pd_var 2) padd_nil) (by omega)) (rngD_Z n)) (blkOk_by (N := nLaw) (sc := defScope sLaw) (by decide +kernel)) (by rw [rngZ_len]; omega) (fun y hy _ H C' cl fp => pgd_name 11 scLaw.nd) (fun y hy l _ H C' cl fp => ptsd_one (ptd_ne (pd_var 11) (pd_var 10))) (fun y hy _ l _ H C' cl fp => pd_var 11)) rfl) padd_nil) (chF_no n _ np1 np2 np3 np4) hps) T.cl hr (Nat.le_refl _) ⟨n - 1, cns (n - 1) G, rfl, by omega, fours_FN (by omega) (by omega) G, rfl, rfl⟩)) ?_
          show PBD _ (lwS C ss n wd wi F none (some (.own 1)) (some (.d (.bl sm))) (some (.d (.int x))) none (some (.d (.bl (sndB (n - 1) G))))) _ _ _
          refine pbd_skip (bl := false) (ptd_eqB (ptd_ne (pd_var 12) (pd_isN (pd_cgW (d := optD (badW (n - 1) G)) Cb hr (Nat.le_refl _) (rs := [.d (.int (n - 1)), .own (2 + l.length)]) (rs' := [.d (.int (n - 1)), .d (tabD' (n - 1) G)]) (pad_cons (pd_sub (pd_var 2) pd_int) (pad_cons (pd_ixR (m := l.length) (j := 2 + l.length) (z := 0) (pd_var 8) (pd_eqD (pd_var 10) (by rw [hx])) (lv_r0 (ow := [OB.l (pq.map D.int)])) (gsP_get (by omega))) pad_nil)) (.d (.t hpg .nil)) ⟨n - 1, G, rfl, by omega, by omega, rfl, rfl⟩ (flat_opt _)) pd_non)) (by rw [badW_eq (by omega) (by omega) sG]; unfold sndB; simp)) rfl ?_
          refine pbd_weak (st1 := lwS C ss n wd wi F none (some (.own 1)) (some (.d (.bl (sm && sndB (n - 1) G)))) (some (.d (.int x))) none (some (.d (.bl (sndB (n - 1) G))))) (pbd_cons (psd_if (bl := !sndB (n - 1) G) (ptd_not (ptd_val (pd_var 12))) (fun hb => ?_) (fun hb => ?_)) pbd_nil) rfl (by (intro i r h; rcases i with _ | _ | _ | _ | _ | _ | _ | _ | _ | _ | _ | _ | _ | i <;> first | exact h | cases h))
          · have hb : sndB (n - 1) G = false := by simpa using hb
            rw [hb, Bool.and_false]
            exact pbd_cons (psd_set 9 scLaw.nd pd_bl) pbd_nil
          · have hb : sndB (n - 1) G = true := by simpa using hb
            rw [hb, Bool.and_true]
            exact pbd_nil
        · rw [hend]
          refine pbd_skip (bl := false) (ptd_eqB (ptd_bool (pwd_or (p := !decide (V.bl (sndB n F) = V.bl (sndB n F))) (ptd_ne (x := .bl (sndB n F)) (y := .bl (sndB n F)) (pd_pt Ps (pd_var 6) T.cl hr (Nat.le_refl _) ⟨n, cns n F, rfl, by omega, fours_FN (by omega) (by omega) F, rfl, rfl⟩) (pd_var 9)) (fun _ => pwd_or1 (ptd_ne (x := .bl (sndB n F)) (y := .bl (nonD (optD (badW n F)))) (pd_var 9) (pd_isN (pd_cg Cb hr (Nat.le_refl _) (padd_cons (pd_var 2) (padd_cons (pd_var 5) padd_nil)) ⟨n, F, rfl, by omega, by omega, rfl, rfl⟩) pd_non))))) (by rw [badW_eq (by omega) (by omega) sF]; unfold sndB; simp)) rfl ?_
          refine pbd_skip (ptd_not (ptd_val (pd_cg Cq hr (Nat.le_refl _) (pad_cons (pd_var 1) (pad_cons (pd_var 2) (pad_cons (pd_var 5) (pad_cons (pd_var 8) pad_nil)))) ⟨0, pq, n, F, [.l (pq.map D.int)], fun x => FP F (othersZ n x), rfl, by rw [hm]; rfl, rfl, h5, by omega, fun x => FP_sgn sF, hno, rfl, rfl⟩))) rfl ?_
          rw [hpe, hm]
          exact pbd_nil
      · refine pbd_last (psd_ret (pd_cg Cf hr (Nat.le_refl _) (padd_cons (pd_var 6) (padd_cons (pd_var 3) (padd_cons (pd_var 2) padd_nil))) ⟨n, F, wd, rfl, n1, by omega, hwr.1, by omega, rfl, rfl⟩))
    · rw [if_neg h5] at hpe
      rw [hpe]
      refine pbd_skip (ptd_ge (pd_var 2) pd_int) (decide_eq_false h5) ?_
      exact pbd_last (psd_ret (pd_cg Cf hr (Nat.le_refl _) (padd_cons (pd_var 6) (padd_cons (pd_var 3) (padd_cons (pd_var 2) padd_nil))) ⟨n, F, wd, rfl, n1, by omega, hwr.1, by omega, rfl, rfl⟩))
end
end Bl
set_option Elab.async false
set_option linter.all false
set_option maxRecDepth 100000
set_option maxHeartbeats 8000000
namespace Bl
open PySem PySem.Spec PyProof.Rows L2 PySem.Xq
/-- a def's record in the written part -/
structure Fx (K : PySem.W.Frag) (xn qual : Str) (st : Stmt) (f : Addr) : Prop where
  l : ∃ (oc : Value) (od : Option Addr) (kV doc pm : Value) (an : Option Addr) (cdv ct : Value) (osl : Array (Option Value)), K.lookup f = some ⟨oc, od, .func (PySem.W.fnOf xn qual (defArgs st) (defBody st) (defScope st) .none kV doc pm an cdv ct), osl⟩ ∧ PySem.W.codeIn K cdv qual = true
  k : PySem.W.keepIn K (.ref f) = true
theorem Fx.of {K : PySem.W.Frag} {xn qual : Str} {st : Stmt} {f : Addr} {oc : Value} {od : Option Addr} {kV doc pm : Value} {an : Option Addr} {cdv ct : Value} {osl : Array (Option Value)} (l : K.lookup f = some ⟨oc, od, .func (PySem.W.fnOf xn qual (defArgs st) (defBody st) (defScope st) .none kV doc pm an cdv ct), osl⟩) (c : PySem.W.codeIn K cdv qual = true) (k : PySem.W.keepIn K (.ref f) = true) : Fx K xn qual st f := ⟨⟨oc, od, kV, doc, pm, an, cdv, ct, osl, l, c⟩, k⟩
theorem Fg.up {P : Program} {w : World} {K : PySem.W.Frag} {mg : Str → Option Value} {base : Heap} {xn : Str} {j k : Nat} {ps : List Str} {g : GG} (F : Fg P w K mg base xn j ps g) (h : j ≤ k) : Fg P w K mg base xn k ps g := by
  obtain ⟨f, fd, a, b, c, d⟩ := F
  exact ⟨f, fd, a.mono h, b, c, d⟩
theorem Mt.up {P : Program} {w : World} {K : PySem.W.Frag} {mg : Str → Option Value} {base : Heap} {C : Addr} {xn : Str} {j k : Nat} {ps : List Str} {g : GG} (F : Mt P w K mg base C xn j ps g) (h : j ≤ k) : Mt P w K mg base C xn k ps g := by
  obtain ⟨f, fd, a, b, c⟩ := F
  exact ⟨f, fd, a.mono h, b, c⟩
theorem Pt.up {P : Program} {w : World} {K : PySem.W.Frag} {mg : Str → Option Value} {base : Heap} {C : Addr} {xn : Str} {j k : Nat} {ps : List Str} {g : GG} (F : Pt P w K mg base C xn j ps g) (h : j ≤ k) : Pt P w K mg base C xn k ps g := by
  obtain ⟨p, f, fd, a, b, c⟩ := F
  exact ⟨p, f, fd, a.mono h, b, c⟩
theorem kit_self {K : PySem.W.Frag} {C : Addr} : PySem.W.kitOne K (.ref C) (.ref C) = some true := by
  unfold PySem.W.kitOne
  rw [if_pos (by simp)]
section
variable {K : PySem.W.Frag} {B bE nB : Addr} {nmB qB : Str} {bsB : List Value} {snB : List Str} {subB : List Value} {abB : Bool} {colB : Option Bool} {ddB : Option Addr} {k0 k1 k2 k3 k5 : Option Value}
theorem exc_ini (h : K.lookup B = some (PySem.excClassObj nmB qB B nB bsB [.ref bE, .type "Exception", .type "BaseException", .type "object"] true snB subB abB colB ddB k0 k1 k2 k3 k5 "Exception.__new__")) : PySem.W.excInitIn K B tailE "Exception.__new__" = true := by
  unfold PySem.W.excInitIn
  rw [h]
  show ((B == B) && ("Exception.__new__" == "Exception.__new__") && !false && PySem.W.excTail tailE [.ref bE, .type "Exception", .type "BaseException", .type "object"]) = true
  rw [show (B == B) = true by simp]
  show (true && ("Exception.__new__" == "Exception.__new__") && !false && PySem.W.excTail tailE [.type "Exception", .type "BaseException", .type "object"]) = true
  decide +kernel
theorem exc_ovr (h : K.lookup B = some (PySem.excClassObj nmB qB B nB bsB [.ref bE, .type "Exception", .type "BaseException", .type "object"] true snB subB abB colB ddB k0 k1 k2 k3 k5 "Exception.__new__")) : PySem.W.excOver K B tailE = true := by
  unfold PySem.W.excOver PySem.W.clsIn
  rw [h]
  show ((B == B) && PySem.W.excTail tailE [.ref bE, .type "Exception", .type "BaseException", .type "object"]) = true
  rw [show (B == B) = true by simp]
  show (true && PySem.W.excTail tailE [.type "Exception", .type "BaseException", .type "object"]) = true
  decide +kernel
theorem exm_own (h1 : PySem.W.subIn K (.ref B) (.type "BaseException") = some true) (h2 : PySem.W.isClsIn K B = true) (h3 : PySem.W.typeIn K (.ref B) = some (.type "type")) (h4 : PySem.W.subIn K (.ref B) (.ref B) = some true) : PySem.W.exmOne K (.ref B) (.ref B) = some true := by
  unfold PySem.W.exmOne
  rw [h1, if_pos (by decide)]
  unfold PySem.W.kitCls
  have h5 : (PySem.W.clsIn K B).isSome = true := h2
  simp only [h3, h5]
  exact h4
end
theorem exm_not {K : PySem.W.Frag} {A B : Addr} (h1 : PySem.W.subIn K (.ref B) (.type "BaseException") = some true) (h2 : PySem.W.isClsIn K B = true) (h3 : PySem.W.typeIn K (.ref B) = some (.type "type")) (h4 : PySem.W.subIn K (.ref A) (.ref B) = some false) : PySem.W.exmOne K (.ref A) (.ref B) = some false := by
  unfold PySem.W.exmOne
  rw [h1, if_pos (by decide)]
  unfold PySem.W.kitCls
  have h5 : (PySem.W.clsIn K B).isSome = true := h2
  simp only [h3, h5]
  exact h4
theorem Fx.at_ {K : PySem.W.Frag} {xn qual : Str} {st : Stmt} {f : Addr} (x : Fx K xn qual st f) : ∃ fd, Fun K xn qual st f fd := by
  obtain ⟨oc, od, kV, doc, pm, an, cdv, ct, osl, l, c⟩ := x.l
  exact ⟨_, fun_mk l c x.k⟩

theorem all_mk {l : PySem.W.OpenLaw} {w : World} {K : PySem.W.Frag} {h : Heap} {mg : Str → Option Value} {fa : Addr} (X : K.In h) (G : h.Ns mainGlobals mg) (hfa : mg "law" = some (.ref fa))
    {f_is_int : Addr}
    (a_is_int : PySem.W.nsIn K mainGlobals "is_int" = some (some (.ref f_is_int)))
    (d_is_int : Fx K "is_int" "is_int" (topS 10) f_is_int)
    {f_check_int : Addr}
    (a_check_int : PySem.W.nsIn K mainGlobals "check_int" = some (some (.ref f_check_int)))
    (d_check_int : Fx K "check_int" "check_int" (topS 11) f_check_int)
    {f_choose : Addr}
    (a_choose : PySem.W.nsIn K mainGlobals "choose" = some (some (.ref f_choose)))
    (d_choose : Fx K "choose" "choose" (topS 12) f_choose)
    {f_check_size : Addr}
    (a_check_size : PySem.W.nsIn K mainGlobals "check_size" = some (some (.ref f_check_size)))
    (d_check_size : Fx K "check_size" "check_size" (topS 15) f_check_size)
    {f_check_line : Addr}
    (a_check_line : PySem.W.nsIn K mainGlobals "check_line" = some (some (.ref f_check_line)))
    (d_check_line : Fx K "check_line" "check_line" (topS 16) f_check_line)
    {f_pairs_in : Addr}
    (a_pairs_in : PySem.W.nsIn K mainGlobals "pairs_in" = some (some (.ref f_pairs_in)))
    (d_pairs_in : Fx K "pairs_in" "pairs_in" (topS 17) f_pairs_in)
    {f_threes_in : Addr}
    (a_threes_in : PySem.W.nsIn K mainGlobals "threes_in" = some (some (.ref f_threes_in)))
    (d_threes_in : Fx K "threes_in" "threes_in" (topS 18) f_threes_in)
    {f_fours_in : Addr}
    (a_fours_in : PySem.W.nsIn K mainGlobals "fours_in" = some (some (.ref f_fours_in)))
    (d_fours_in : Fx K "fours_in" "fours_in" (topS 19) f_fours_in)
    {f_order_sign : Addr}
    (a_order_sign : PySem.W.nsIn K mainGlobals "order_sign" = some (some (.ref f_order_sign)))
    (d_order_sign : Fx K "order_sign" "order_sign" (topS 20) f_order_sign)
    {f_is_sign : Addr}
    (a_is_sign : PySem.W.nsIn K mainGlobals "is_sign" = some (some (.ref f_is_sign)))
    (d_is_sign : Fx K "is_sign" "is_sign" (topS 26) f_is_sign)
    {f_check_signs : Addr}
    (a_check_signs : PySem.W.nsIn K mainGlobals "check_signs" = some (some (.ref f_check_signs)))
    (d_check_signs : Fx K "check_signs" "check_signs" (topS 27) f_check_signs)
    {f_changes : Addr}
    (a_changes : PySem.W.nsIn K mainGlobals "changes" = some (some (.ref f_changes)))
    (d_changes : Fx K "changes" "changes" (topS 28) f_changes)
    {f_good_row : Addr}
    (a_good_row : PySem.W.nsIn K mainGlobals "good_row" = some (some (.ref f_good_row)))
    (d_good_row : Fx K "good_row" "good_row" (topS 29) f_good_row)
    {f_signs_of_four : Addr}
    (a_signs_of_four : PySem.W.nsIn K mainGlobals "signs_of_four" = some (some (.ref f_signs_of_four)))
    (d_signs_of_four : Fx K "signs_of_four" "signs_of_four" (topS 30) f_signs_of_four)
    {f_lot_from_lines : Addr}
    (a_lot_from_lines : PySem.W.nsIn K mainGlobals "lot_from_lines" = some (some (.ref f_lot_from_lines)))
    (d_lot_from_lines : Fx K "lot_from_lines" "lot_from_lines" (topS 24) f_lot_from_lines)
    {f_lot_of_many : Addr}
    (a_lot_of_many : PySem.W.nsIn K mainGlobals "lot_of_many" = some (some (.ref f_lot_of_many)))
    (d_lot_of_many : Fx K "lot_of_many" "lot_of_many" (topS 23) f_lot_of_many)
    {f_three_of : Addr}
    (a_three_of : PySem.W.nsIn K mainGlobals "three_of" = some (some (.ref f_three_of)))
    (d_three_of : Fx K "three_of" "three_of" (topS 22) f_three_of)
    {f_lot_of : Addr}
    (a_lot_of : PySem.W.nsIn K mainGlobals "lot_of" = some (some (.ref f_lot_of)))
    (d_lot_of : Fx K "lot_of" "lot_of" (topS 21) f_lot_of)
    {f__law_pool : Addr}
    (a__law_pool : PySem.W.nsIn K mainGlobals "_law_pool" = some (some (.ref f__law_pool)))
    (d__law_pool : Fx K "_law_pool" "_law_pool" (topS 36) f__law_pool)
    {f__law_next : Addr}
    (a__law_next : PySem.W.nsIn K mainGlobals "_law_next" = some (some (.ref f__law_next)))
    (d__law_next : Fx K "_law_next" "_law_next" (topS 37) f__law_next)
    {f__law_size : Addr}
    (a__law_size : PySem.W.nsIn K mainGlobals "_law_size" = some (some (.ref f__law_size)))
    (d__law_size : Fx K "_law_size" "_law_size" (topS 38) f__law_size)
    {f__law_turns : Addr}
    (a__law_turns : PySem.W.nsIn K mainGlobals "_law_turns" = some (some (.ref f__law_turns)))
    (d__law_turns : Fx K "_law_turns" "_law_turns" (topS 39) f__law_turns)
    {f__law_rows : Addr}
    (a__law_rows : PySem.W.nsIn K mainGlobals "_law_rows" = some (some (.ref f__law_rows)))
    (d__law_rows : Fx K "_law_rows" "_law_rows" (topS 40) f__law_rows)
    {f__law_times : Addr}
    (a__law_times : PySem.W.nsIn K mainGlobals "_law_times" = some (some (.ref f__law_times)))
    (d__law_times : Fx K "_law_times" "_law_times" (topS 41) f__law_times)
    {f__law_table : Addr}
    (a__law_table : PySem.W.nsIn K mainGlobals "_law_table" = some (some (.ref f__law_table)))
    (d__law_table : Fx K "_law_table" "_law_table" (topS 42) f__law_table)
    {f__law_signs : Addr}
    (a__law_signs : PySem.W.nsIn K mainGlobals "_law_signs" = some (some (.ref f__law_signs)))
    (d__law_signs : Fx K "_law_signs" "_law_signs" (topS 43) f__law_signs)
    {f__law_spoil : Addr}
    (a__law_spoil : PySem.W.nsIn K mainGlobals "_law_spoil" = some (some (.ref f__law_spoil)))
    (d__law_spoil : Fx K "_law_spoil" "_law_spoil" (topS 45) f__law_spoil)
    {f__law_steady : Addr}
    (a__law_steady : PySem.W.nsIn K mainGlobals "_law_steady" = some (some (.ref f__law_steady)))
    (d__law_steady : Fx K "_law_steady" "_law_steady" (topS 46) f__law_steady)
    {f__law_good : Addr}
    (a__law_good : PySem.W.nsIn K mainGlobals "_law_good" = some (some (.ref f__law_good)))
    (d__law_good : Fx K "_law_good" "_law_good" (topS 47) f__law_good)
    {f__law_bad_four : Addr}
    (a__law_bad_four : PySem.W.nsIn K mainGlobals "_law_bad_four" = some (some (.ref f__law_bad_four)))
    (d__law_bad_four : Fx K "_law_bad_four" "_law_bad_four" (topS 48) f__law_bad_four)
    {f__law_lot : Addr}
    (a__law_lot : PySem.W.nsIn K mainGlobals "_law_lot" = some (some (.ref f__law_lot)))
    (d__law_lot : Fx K "_law_lot" "_law_lot" (topS 44) f__law_lot)
    {f__law_part : Addr}
    (a__law_part : PySem.W.nsIn K mainGlobals "_law_part" = some (some (.ref f__law_part)))
    (d__law_part : Fx K "_law_part" "_law_part" (topS 49) f__law_part)
    {f__law_parity : Addr}
    (a__law_parity : PySem.W.nsIn K mainGlobals "_law_parity" = some (some (.ref f__law_parity)))
    (d__law_parity : Fx K "_law_parity" "_law_parity" (topS 50) f__law_parity)
    {f__law_mixed : Addr}
    (a__law_mixed : PySem.W.nsIn K mainGlobals "_law_mixed" = some (some (.ref f__law_mixed)))
    (d__law_mixed : Fx K "_law_mixed" "_law_mixed" (topS 51) f__law_mixed)
    {f__law_refused : Addr}
    (a__law_refused : PySem.W.nsIn K mainGlobals "_law_refused" = some (some (.ref f__law_refused)))
    (d__law_refused : Fx K "_law_refused" "_law_refused" (topS 52) f__law_refused)
    {f__law_fault_kept : Addr}
    (a__law_fault_kept : PySem.W.nsIn K mainGlobals "_law_fault_kept" = some (some (.ref f__law_fault_kept)))
    (d__law_fault_kept : Fx K "_law_fault_kept" "_law_fault_kept" (topS 53) f__law_fault_kept)
    {f__law_orders_kept : Addr}
    (a__law_orders_kept : PySem.W.nsIn K mainGlobals "_law_orders_kept" = some (some (.ref f__law_orders_kept)))
    (d__law_orders_kept : Fx K "_law_orders_kept" "_law_orders_kept" (topS 54) f__law_orders_kept)
    {f__law_lot_kept : Addr}
    (a__law_lot_kept : PySem.W.nsIn K mainGlobals "_law_lot_kept" = some (some (.ref f__law_lot_kept)))
    (d__law_lot_kept : Fx K "_law_lot_kept" "_law_lot_kept" (topS 55) f__law_lot_kept)
    {f__law_leavings : Addr}
    (a__law_leavings : PySem.W.nsIn K mainGlobals "_law_leavings" = some (some (.ref f__law_leavings)))
    (d__law_leavings : Fx K "_law_leavings" "_law_leavings" (topS 56) f__law_leavings)
    {f__law_glued_kept : Addr}
    (a__law_glued_kept : PySem.W.nsIn K mainGlobals "_law_glued_kept" = some (some (.ref f__law_glued_kept)))
    (d__law_glued_kept : Fx K "_law_glued_kept" "_law_glued_kept" (topS 57) f__law_glued_kept)
    {fL : Addr}
    (aL : PySem.W.nsIn K mainGlobals "law" = some (some (.ref fL)))
    (dL : Fx K "law" "law" (topS 58) fL)
    (zIsi0 : PySem.W.nsIn K mainGlobals "isinstance" = some none)
    (zInt0 : PySem.W.nsIn K mainGlobals "int" = some none)
    (zBool0 : PySem.W.nsIn K mainGlobals "bool" = some none)
    (zList0 : PySem.W.nsIn K mainGlobals "list" = some none)
    (zTuple0 : PySem.W.nsIn K mainGlobals "tuple" = some none)
    (zLen0 : PySem.W.nsIn K mainGlobals "len" = some none)
    (zEnum0 : PySem.W.nsIn K mainGlobals "enumerate" = some none)
    (zSorted0 : PySem.W.nsIn K mainGlobals "sorted" = some none)
    (zAll0 : PySem.W.nsIn K mainGlobals "all" = some none)
    (zRange0 : PySem.W.nsIn K mainGlobals "range" = some none)
    (zDict0 : PySem.W.nsIn K mainGlobals "dict" = some none)
    (zZip0 : PySem.W.nsIn K mainGlobals "zip" = some none)
    (zMin0 : PySem.W.nsIn K mainGlobals "min" = some none)
    (zMax0 : PySem.W.nsIn K mainGlobals "max" = some none)
    (vComb0 : PySem.W.nsIn K mainGlobals "comb" = some (some (.builtin "math.comb")))
    {tk : Tok}
    (vMost0 : PySem.W.nsIn K mainGlobals "MOST_LINES" = some (some (.int 16 tk)))
    {C : Addr}
    (vC0 : PySem.W.nsIn K mainGlobals "Chart" = some (some (.ref C)))
    (pg : PySem.W.plainGet K C Str.empty = true)
    (hd : PySem.W.hasDictIn K C = true)
    (po : PySem.W.plainOver K C = true)
    (sa : PySem.W.findIn K (.ref C) "__setattr__" = some (some (.builtin "object.__setattr__")))
    (n1 : PySem.W.findIn K (.ref C) "size" = some none)
    (n2 : PySem.W.findIn K (.ref C) "signs" = some none)
    (n3 : PySem.W.findIn K (.ref C) "lines" = some none)
    (n4 : PySem.W.findIn K (.ref C) "_table" = some none)
    (o1 : PySem.W.findIn K (.ref C) "__class__" = some (some (.builtin "object.__class__")))
    (o2 : PySem.W.specialIn K (.builtin "object.__class__") "__get__" = some (some (.builtin "getset_descriptor.__get__")))
    (o3 : PySem.W.takesIn K (.builtin "object.__class__") = some true)
    (o4 : PySem.W.mroIn K C (.type "object") = some true)
    (mk : PySem.W.makesIn K C = true)
    (kC : PySem.W.keepIn K (.ref C) = true)
    (cl1 : PySem.W.isClsIn K C = true)
    (cl2 : PySem.W.typeIn K (.ref C) = some (.type "type"))
    {f_lot_sign : Addr}
    (m1lot_sign : PySem.W.findIn K (.ref C) "lot_sign" = some (some (.ref f_lot_sign)))
    (m2lot_sign : PySem.W.isFn K (.ref f_lot_sign) = true)
    (d_lot_sign : Fx K "lot_sign" "Chart.lot_sign" (inClass (topS 34) 8) f_lot_sign)
    {p_bad f_bad : Addr} {r_bad : List Value}
    (b1bad : PySem.W.findIn K (.ref C) "bad" = some (some (.ref p_bad)))
    (b2bad : PySem.W.specialIn K (.ref p_bad) "__get__" = some (some (.builtin "property.__get__")))
    (b3bad : PySem.W.takesIn K (.ref p_bad) = some true)
    (b4bad : PySem.W.recIn K p_bad "property" = some (.ref f_bad :: r_bad))
    (d_bad : Fx K "bad" "Chart.bad" (inClass (topS 34) 4) f_bad)
    {p_sound f_sound : Addr} {r_sound : List Value}
    (b1sound : PySem.W.findIn K (.ref C) "sound" = some (some (.ref p_sound)))
    (b2sound : PySem.W.specialIn K (.ref p_sound) "__get__" = some (some (.builtin "property.__get__")))
    (b3sound : PySem.W.takesIn K (.ref p_sound) = some true)
    (b4sound : PySem.W.recIn K p_sound "property" = some (.ref f_sound :: r_sound))
    (d_sound : Fx K "sound" "Chart.sound" (inClass (topS 34) 5) f_sound)
    {f___init__ : Addr}
    (m1__init__ : PySem.W.findIn K (.ref C) "__init__" = some (some (.ref f___init__)))
    (m2__init__ : PySem.W.isFn K (.ref f___init__) = true)
    (d___init__ : Fx K "__init__" "Chart.__init__" (inClass (topS 34) 1) f___init__)
    {f_sign : Addr}
    (m1sign : PySem.W.findIn K (.ref C) "sign" = some (some (.ref f_sign)))
    (m2sign : PySem.W.isFn K (.ref f_sign) = true)
    (d_sign : Fx K "sign" "Chart.sign" (inClass (topS 34) 9) f_sign)
    {f_part : Addr}
    (m1part : PySem.W.findIn K (.ref C) "part" = some (some (.ref f_part)))
    (m2part : PySem.W.isFn K (.ref f_part) = true)
    (d_part : Fx K "part" "Chart.part" (inClass (topS 34) 10) f_part)
    {f___getitem__ : Addr}
    (m1__getitem__ : PySem.W.findIn K (.ref C) "__getitem__" = some (some (.ref f___getitem__)))
    (m2__getitem__ : PySem.W.isFn K (.ref f___getitem__) = true)
    (m3__getitem__ : PySem.W.fnIn K f___getitem__ = true)
    (d___getitem__ : Fx K "__getitem__" "Chart.__getitem__" (inClass (topS 34) 19) f___getitem__)
    {f___eq__ : Addr}
    (m1__eq__ : PySem.W.findIn K (.ref C) "__eq__" = some (some (.ref f___eq__)))
    (m2__eq__ : PySem.W.isFn K (.ref f___eq__) = true)
    (d___eq__ : Fx K "__eq__" "Chart.__eq__" (inClass (topS 34) 20) f___eq__)
    {CBadKind FBadKind EBadKind NBadKind : Addr} {nmBadKind qBadKind : Str} {bsBadKind : List Value} {snBadKind : List Str} {subBadKind : List Value} {abBadKind : Bool} {colBadKind : Option Bool} {ddBadKind : Option Addr} {uBadKind vBadKind wBadKind xBadKind yBadKind : Option Value}
    (x0BadKind : PySem.W.nsIn K mainGlobals "BadKind" = some (some (.ref CBadKind)))
    (x1BadKind : K.lookup CBadKind = some (PySem.excClassObj nmBadKind qBadKind CBadKind NBadKind bsBadKind [.ref EBadKind, .type "Exception", .type "BaseException", .type "object"] true snBadKind subBadKind abBadKind colBadKind ddBadKind uBadKind vBadKind wBadKind xBadKind yBadKind "Exception.__new__"))
    (x2BadKind : PySem.W.isClsIn K CBadKind = true)
    (x3BadKind : PySem.W.hasDictIn K CBadKind = true)
    (x4BadKind : PySem.W.findIn K (.ref CBadKind) "__setattr__" = some (some (.builtin "object.__setattr__")))
    (x5BadKind : PySem.W.findIn K (.ref CBadKind) "__getattribute__" = some (some (.builtin "BaseException.__getattribute__")))
    (x6BadKind : PySem.W.findIn K (.ref CBadKind) "__getattr__" = some none)
    (x7BadKind : PySem.W.findIn K (.ref CBadKind) "word" = some none)
    (x8BadKind : PySem.W.findIn K (.ref CBadKind) "__init__" = some (some (.ref FBadKind)))
    (x9BadKind : PySem.W.typeIn K (.ref FBadKind) = some (.type "function"))
    (x10BadKind : PySem.W.keepIn K (.ref CBadKind) = true)
    (x11BadKind : PySem.W.subIn K (.ref CBadKind) (.type "BaseException") = some true)
    (x12BadKind : PySem.W.typeIn K (.ref CBadKind) = some (.type "type"))
    (x13BadKind : PySem.W.subIn K (.ref CBadKind) (.ref CBadKind) = some true)
    (xdBadKind : Fx K "__init__" "BadKind.__init__" sBKB FBadKind)
    {CBadLine FBadLine EBadLine NBadLine : Addr} {nmBadLine qBadLine : Str} {bsBadLine : List Value} {snBadLine : List Str} {subBadLine : List Value} {abBadLine : Bool} {colBadLine : Option Bool} {ddBadLine : Option Addr} {uBadLine vBadLine wBadLine xBadLine yBadLine : Option Value}
    (x0BadLine : PySem.W.nsIn K mainGlobals "BadLine" = some (some (.ref CBadLine)))
    (x1BadLine : K.lookup CBadLine = some (PySem.excClassObj nmBadLine qBadLine CBadLine NBadLine bsBadLine [.ref EBadLine, .type "Exception", .type "BaseException", .type "object"] true snBadLine subBadLine abBadLine colBadLine ddBadLine uBadLine vBadLine wBadLine xBadLine yBadLine "Exception.__new__"))
    (x2BadLine : PySem.W.isClsIn K CBadLine = true)
    (x3BadLine : PySem.W.hasDictIn K CBadLine = true)
    (x4BadLine : PySem.W.findIn K (.ref CBadLine) "__setattr__" = some (some (.builtin "object.__setattr__")))
    (x5BadLine : PySem.W.findIn K (.ref CBadLine) "__getattribute__" = some (some (.builtin "BaseException.__getattribute__")))
    (x6BadLine : PySem.W.findIn K (.ref CBadLine) "__getattr__" = some none)
    (x7BadLine : PySem.W.findIn K (.ref CBadLine) "line" = some none)
    (x8BadLine : PySem.W.findIn K (.ref CBadLine) "__init__" = some (some (.ref FBadLine)))
    (x9BadLine : PySem.W.typeIn K (.ref FBadLine) = some (.type "function"))
    (x10BadLine : PySem.W.keepIn K (.ref CBadLine) = true)
    (x11BadLine : PySem.W.subIn K (.ref CBadLine) (.type "BaseException") = some true)
    (x12BadLine : PySem.W.typeIn K (.ref CBadLine) = some (.type "type"))
    (x13BadLine : PySem.W.subIn K (.ref CBadLine) (.ref CBadLine) = some true)
    (xdBadLine : Fx K "__init__" "BadLine.__init__" sBKL FBadLine)
    (w_BadLine_BadKind : PySem.W.subIn K (.ref CBadLine) (.ref CBadKind) = some false) :
    ∃ fd : FuncData, (∀ (s : Shared) (v : Value), BindsTo s fd ⟨[v], []⟩ [("_law_script", v)]) ∧ ∀ base : Heap, K.In base → base.Ns mainGlobals mg → FnOk l.prog w K mg base CX0 10 fa fd ["_law_script"] (spF K gLaw) := by
  have e := hfa.symm.trans (PySem.W.mg_of X G aL)
  cases e
  have zIsi : mg "isinstance" = none := PySem.W.mg_none_of X G zIsi0
  have zInt : mg "int" = none := PySem.W.mg_none_of X G zInt0
  have zBool : mg "bool" = none := PySem.W.mg_none_of X G zBool0
  have zList : mg "list" = none := PySem.W.mg_none_of X G zList0
  have zTuple : mg "tuple" = none := PySem.W.mg_none_of X G zTuple0
  have zLen : mg "len" = none := PySem.W.mg_none_of X G zLen0
  have zEnum : mg "enumerate" = none := PySem.W.mg_none_of X G zEnum0
  have zSorted : mg "sorted" = none := PySem.W.mg_none_of X G zSorted0
  have zAll : mg "all" = none := PySem.W.mg_none_of X G zAll0
  have zRange : mg "range" = none := PySem.W.mg_none_of X G zRange0
  have zDict : mg "dict" = none := PySem.W.mg_none_of X G zDict0
  have zZip : mg "zip" = none := PySem.W.mg_none_of X G zZip0
  have zMin : mg "min" = none := PySem.W.mg_none_of X G zMin0
  have zMax : mg "max" = none := PySem.W.mg_none_of X G zMax0
  have vComb := PySem.W.mg_of X G vComb0
  have vMost := PySem.W.mg_of X G vMost0
  have vC := PySem.W.mg_of X G vC0
  have T : ChTxt K C := ⟨⟨pg, hd, po, sa⟩, n1, n2, n3, n4⟩
  have oC : OwnC K C := ⟨T.cl, o1, o2, o3, o4, kit_self⟩
  have M : Mk K C f___init__ := ⟨mk, m1__init__, m2__init__, kC⟩
  have vBadKind := PySem.W.mg_of X G x0BadKind
  have TBadKind : BTxt K CBadKind FBadKind := ⟨exc_ini x1BadKind, exc_ovr x1BadKind, x3BadKind, x4BadKind, x5BadKind, x6BadKind, x7BadKind, x8BadKind, x9BadKind, x10BadKind, x11BadKind, x12BadKind, exm_own x11BadKind x2BadKind x12BadKind x13BadKind, xdBadKind.l⟩
  have vBadLine := PySem.W.mg_of X G x0BadLine
  have TBadLine : LTxt K CBadLine FBadLine := ⟨exc_ini x1BadLine, exc_ovr x1BadLine, x3BadLine, x4BadLine, x5BadLine, x6BadLine, x7BadLine, x8BadLine, x9BadLine, x10BadLine, x11BadLine, x12BadLine, exm_own x11BadLine x2BadLine x12BadLine x13BadLine, xdBadLine.l⟩
  have q_BadLine_BadKind : PySem.W.exmOne K (.ref CBadLine) (.ref CBadKind) = some false := exm_not x11BadKind x2BadKind x12BadKind w_BadLine_BadKind
  obtain ⟨oc1, od1, kV1, doc1, pm1, an1, cdv1, ct1, osl1, l1, c1⟩ := dL.l
  refine ⟨PySem.W.fnOf "law" "law" (defArgs (topS 58)) (defBody (topS 58)) (defScope (topS 58)) .none kV1 doc1 pm1 an1 cdv1 ct1, fun s v => .of_eq rfl, fun base KB GB => ?_⟩
  have FL := fun_mk (st := topS 58) l1 c1 dL.k
  have g_is_int : Fg l.prog w K mg base "is_int" 1 ["value"] gIsInt := by
    obtain ⟨oc, od, kV, doc, pm, an, cdv, ct, osl, l2, c2⟩ := d_is_int.l
    have F := fun_mk (st := topS 10) l2 c2 d_is_int.k
    exact ⟨f_is_int, _, ok_isInt (k := 0) F zIsi zInt zBool, PySem.W.mg_of X G a_is_int, d_is_int.k, F.binds (ps := ["value"]) fun _ _ _ _ _ _ us hl => match us, hl with | [_], _ => rfl⟩
  have g_check_int : Fg l.prog w K mg base "check_int" 2 ["value", "word", "least", "most"] gCheckInt := by
    obtain ⟨oc, od, kV, doc, pm, an, cdv, ct, osl, l2, c2⟩ := d_check_int.l
    have F := fun_mk (st := topS 11) l2 c2 d_check_int.k
    exact ⟨f_check_int, _, ok_checkInt (k := 1) F (g_is_int.up (by decide : 1 ≤ 1)), PySem.W.mg_of X G a_check_int, d_check_int.k, F.binds (ps := ["value", "word", "least", "most"]) fun _ _ _ _ _ _ us hl => match us, hl with | [_, _, _, _], _ => rfl⟩
  have g_choose : Fg l.prog w K mg base "choose" 3 ["n", "k"] gChoose := by
    obtain ⟨oc, od, kV, doc, pm, an, cdv, ct, osl, l2, c2⟩ := d_choose.l
    have F := fun_mk (st := topS 12) l2 c2 d_choose.k
    exact ⟨f_choose, _, ok_choose (k := 2) F (g_check_int.up (by decide : 2 ≤ 2)) vComb, PySem.W.mg_of X G a_choose, d_choose.k, F.binds (ps := ["n", "k"]) fun _ _ _ _ _ _ us hl => match us, hl with | [_, _], _ => rfl⟩
  have g_check_size : Fg l.prog w K mg base "check_size" 3 ["size"] gCheckSize := by
    obtain ⟨oc, od, kV, doc, pm, an, cdv, ct, osl, l2, c2⟩ := d_check_size.l
    have F := fun_mk (st := topS 15) l2 c2 d_check_size.k
    exact ⟨f_check_size, _, ok_checkSize (k := 2) F (g_check_int.up (by decide : 2 ≤ 2)) vMost, PySem.W.mg_of X G a_check_size, d_check_size.k, F.binds (ps := ["size"]) fun _ _ _ _ _ _ us hl => match us, hl with | [_], _ => rfl⟩
  have g_check_line : Fg l.prog w K mg base "check_line" 2 ["line", "size"] gCheckLine := by
    obtain ⟨oc, od, kV, doc, pm, an, cdv, ct, osl, l2, c2⟩ := d_check_line.l
    have F := fun_mk (st := topS 16) l2 c2 d_check_line.k
    exact ⟨f_check_line, _, ok_checkLine (k := 1) F (g_is_int.up (by decide : 1 ≤ 1)), PySem.W.mg_of X G a_check_line, d_check_line.k, F.binds (ps := ["line", "size"]) fun _ _ _ _ _ _ us hl => match us, hl with | [_, _], _ => rfl⟩
  have g_pairs : Fg l.prog w K mg base "pairs_in" 1 ["names"] (gSub sub2) := by
    obtain ⟨oc, od, kV, doc, pm, an, cdv, ct, osl, l2, c2⟩ := d_pairs_in.l
    have F := fun_mk (st := topS 17) l2 c2 d_pairs_in.k
    exact ⟨f_pairs_in, _, ok_pairs (k := 0) F zEnum, PySem.W.mg_of X G a_pairs_in, d_pairs_in.k, F.binds (ps := ["names"]) fun _ _ _ _ _ _ us hl => match us, hl with | [_], _ => rfl⟩
  have g_threes : Fg l.prog w K mg base "threes_in" 2 ["names"] (gSub sub3) := by
    obtain ⟨oc, od, kV, doc, pm, an, cdv, ct, osl, l2, c2⟩ := d_threes_in.l
    have F := fun_mk (st := topS 18) l2 c2 d_threes_in.k
    exact ⟨f_threes_in, _, ok_threes (k := 1) F zEnum (g_pairs.up (by decide : 1 ≤ 1)), PySem.W.mg_of X G a_threes_in, d_threes_in.k, F.binds (ps := ["names"]) fun _ _ _ _ _ _ us hl => match us, hl with | [_], _ => rfl⟩
  have g_fours : Fg l.prog w K mg base "fours_in" 3 ["names"] (gSub sub4) := by
    obtain ⟨oc, od, kV, doc, pm, an, cdv, ct, osl, l2, c2⟩ := d_fours_in.l
    have F := fun_mk (st := topS 19) l2 c2 d_fours_in.k
    exact ⟨f_fours_in, _, ok_fours (k := 2) F zEnum (g_threes.up (by decide : 2 ≤ 2)), PySem.W.mg_of X G a_fours_in, d_fours_in.k, F.binds (ps := ["names"]) fun _ _ _ _ _ _ us hl => match us, hl with | [_], _ => rfl⟩
  have g_order_sign : Fg l.prog w K mg base "order_sign" 2 ["names"] gOrdSign := by
    obtain ⟨oc, od, kV, doc, pm, an, cdv, ct, osl, l2, c2⟩ := d_order_sign.l
    have F := fun_mk (st := topS 20) l2 c2 d_order_sign.k
    exact ⟨f_order_sign, _, ok_ordSign (k := 1) F (g_is_int.up (by decide : 1 ≤ 1)) zIsi zList zTuple zAll zEnum zLen, PySem.W.mg_of X G a_order_sign, d_order_sign.k, F.binds (ps := ["names"]) fun _ _ _ _ _ _ us hl => match us, hl with | [_], _ => rfl⟩
  have g_is_sign : Fg l.prog w K mg base "is_sign" 2 ["value"] gIsSign := by
    obtain ⟨oc, od, kV, doc, pm, an, cdv, ct, osl, l2, c2⟩ := d_is_sign.l
    have F := fun_mk (st := topS 26) l2 c2 d_is_sign.k
    exact ⟨f_is_sign, _, ok_isSign (k := 1) F (g_is_int.up (by decide : 1 ≤ 1)), PySem.W.mg_of X G a_is_sign, d_is_sign.k, F.binds (ps := ["value"]) fun _ _ _ _ _ _ us hl => match us, hl with | [_], _ => rfl⟩
  have g_check_signs : Fg l.prog w K mg base "check_signs" 3 ["signs", "many"] gCheckSigns := by
    obtain ⟨oc, od, kV, doc, pm, an, cdv, ct, osl, l2, c2⟩ := d_check_signs.l
    have F := fun_mk (st := topS 27) l2 c2 d_check_signs.k
    exact ⟨f_check_signs, _, ok_checkSigns (k := 2) F (g_is_sign.up (by decide : 2 ≤ 2)) zIsi zList zTuple zLen zEnum, PySem.W.mg_of X G a_check_signs, d_check_signs.k, F.binds (ps := ["signs", "many"]) fun _ _ _ _ _ _ us hl => match us, hl with | [_, _], _ => rfl⟩
  have g_changes : Fg l.prog w K mg base "changes" 1 ["row"] gChanges := by
    obtain ⟨oc, od, kV, doc, pm, an, cdv, ct, osl, l2, c2⟩ := d_changes.l
    have F := fun_mk (st := topS 28) l2 c2 d_changes.k
    exact ⟨f_changes, _, ok_changes (k := 0) F, PySem.W.mg_of X G a_changes, d_changes.k, F.binds (ps := ["row"]) fun _ _ _ _ _ _ us hl => match us, hl with | [_], _ => rfl⟩
  have g_good_row : Fg l.prog w K mg base "good_row" 2 ["row"] gGoodRow := by
    obtain ⟨oc, od, kV, doc, pm, an, cdv, ct, osl, l2, c2⟩ := d_good_row.l
    have F := fun_mk (st := topS 29) l2 c2 d_good_row.k
    exact ⟨f_good_row, _, ok_goodRow (k := 1) F (g_changes.up (by decide : 1 ≤ 1)) zAll, PySem.W.mg_of X G a_good_row, d_good_row.k, F.binds (ps := ["row"]) fun _ _ _ _ _ _ us hl => match us, hl with | [_], _ => rfl⟩
  have g_lot_sign : Mt l.prog w K mg base C "lot_sign" 1 ["self", "three"] (gLot C) := by
    obtain ⟨oc, od, kV, doc, pm, an, cdv, ct, osl, l2, c2⟩ := d_lot_sign.l
    have F := fun_mk (st := inClass (topS 34) 8) l2 c2 d_lot_sign.k
    exact ⟨f_lot_sign, _, ok_lot (k := 0) F T, ⟨m1lot_sign, m2lot_sign, d_lot_sign.k⟩, F.binds (ps := ["self", "three"]) fun _ _ _ _ _ _ us hl => match us, hl with | [_, _], _ => rfl⟩
  have g_signs4 : Fg l.prog w K mg base "signs_of_four" 2 ["chart", "four"] (gSigns4 C) := by
    obtain ⟨oc, od, kV, doc, pm, an, cdv, ct, osl, l2, c2⟩ := d_signs_of_four.l
    have F := fun_mk (st := topS 30) l2 c2 d_signs_of_four.k
    exact ⟨f_signs_of_four, _, ok_signs4 (k := 1) F T (g_lot_sign.up (by decide : 1 ≤ 1)) zTuple, PySem.W.mg_of X G a_signs_of_four, d_signs_of_four.k, F.binds (ps := ["chart", "four"]) fun _ _ _ _ _ _ us hl => match us, hl with | [_, _], _ => rfl⟩
  have g_lot_from : Fg l.prog w K mg base "lot_from_lines" 3 ["value", "size"] gLotFromS := by
    obtain ⟨oc, od, kV, doc, pm, an, cdv, ct, osl, l2, c2⟩ := d_lot_from_lines.l
    have F := fun_mk (st := topS 24) l2 c2 d_lot_from_lines.k
    exact ⟨f_lot_from_lines, _, ok_lotFromS (k := 2) F (g_check_line.up (by decide : 2 ≤ 2)) zEnum zTuple zSorted, PySem.W.mg_of X G a_lot_from_lines, d_lot_from_lines.k, F.binds (ps := ["value", "size"]) fun _ _ _ _ _ _ us hl => match us, hl with | [_, _], _ => rfl⟩
  have g_lot_many : Fg l.prog w K mg base "lot_of_many" 4 ["value", "size", "many", "word"] gLotManyS := by
    obtain ⟨oc, od, kV, doc, pm, an, cdv, ct, osl, l2, c2⟩ := d_lot_of_many.l
    have F := fun_mk (st := topS 23) l2 c2 d_lot_of_many.k
    exact ⟨f_lot_of_many, _, ok_lotManyS (k := 3) F (g_check_size.up (by decide : 3 ≤ 3)) (g_lot_from.up (by decide : 3 ≤ 3)) zIsi zList zTuple zLen, PySem.W.mg_of X G a_lot_of_many, d_lot_of_many.k, F.binds (ps := ["value", "size", "many", "word"]) fun _ _ _ _ _ _ us hl => match us, hl with | [_, _, _, _], _ => rfl⟩
  have g_three_of : Fg l.prog w K mg base "three_of" 5 ["value", "size"] gThreeOf := by
    obtain ⟨oc, od, kV, doc, pm, an, cdv, ct, osl, l2, c2⟩ := d_three_of.l
    have F := fun_mk (st := topS 22) l2 c2 d_three_of.k
    exact ⟨f_three_of, _, ok_threeOf (k := 4) F (g_lot_many.up (by decide : 4 ≤ 4)), PySem.W.mg_of X G a_three_of, d_three_of.k, F.binds (ps := ["value", "size"]) fun _ _ _ _ _ _ us hl => match us, hl with | [_, _], _ => rfl⟩
  have g_lot_of : Fg l.prog w K mg base "lot_of" 4 ["value", "size"] gLotOf := by
    obtain ⟨oc, od, kV, doc, pm, an, cdv, ct, osl, l2, c2⟩ := d_lot_of.l
    have F := fun_mk (st := topS 21) l2 c2 d_lot_of.k
    exact ⟨f_lot_of, _, ok_lotOf (k := 3) F (g_check_size.up (by decide : 3 ≤ 3)) (g_lot_from.up (by decide : 3 ≤ 3)) zIsi zList zTuple, PySem.W.mg_of X G a_lot_of, d_lot_of.k, F.binds (ps := ["value", "size"]) fun _ _ _ _ _ _ us hl => match us, hl with | [_, _], _ => rfl⟩
  have g_bad : Pt l.prog w K mg base C "bad" 4 ["self"] (gBad C) := by
    obtain ⟨oc, od, kV, doc, pm, an, cdv, ct, osl, l2, c2⟩ := d_bad.l
    have F := fun_mk (st := inClass (topS 34) 4) l2 c2 d_bad.k
    exact ⟨p_bad, f_bad, _, ok_bad (k := 3) F T (g_fours.up (by decide : 3 ≤ 3)) (g_good_row.up (by decide : 2 ≤ 3)) (g_signs4.up (by decide : 2 ≤ 3)), ⟨b1bad, b2bad, b3bad, ⟨r_bad, b4bad⟩⟩, F.binds (ps := ["self"]) fun _ _ _ _ _ _ us hl => match us, hl with | [_], _ => rfl⟩
  have g_sound : Pt l.prog w K mg base C "sound" 6 ["self"] (gSound C) := by
    obtain ⟨oc, od, kV, doc, pm, an, cdv, ct, osl, l2, c2⟩ := d_sound.l
    have F := fun_mk (st := inClass (topS 34) 5) l2 c2 d_sound.k
    exact ⟨p_sound, f_sound, _, ok_sound (k := 4) F T (g_bad.up (by decide : 4 ≤ 4)), ⟨b1sound, b2sound, b3sound, ⟨r_sound, b4sound⟩⟩, F.binds (ps := ["self"]) fun _ _ _ _ _ _ us hl => match us, hl with | [_], _ => rfl⟩
  obtain ⟨ocinit, odinit, kVinit, docinit, pminit, aninit, cdvinit, ctinit, oslinit, linit, cinit⟩ := d___init__.l
  have Finit := fun_mk (st := inClass (topS 34) 1) linit cinit d___init__.k
  have g_init := ok_init (P := l.prog) (w := w) (mg := mg) (base := base) (k := 3) Finit T (g_check_size.up (by decide : 3 ≤ 3)) (g_check_signs.up (by decide : 3 ≤ 3)) (g_choose.up (by decide : 3 ≤ 3)) (g_threes.up (by decide : 2 ≤ 3)) zTuple zRange zDict zZip
  have b_init := Finit.binds (ps := ["self", "size", "signs"]) fun _ _ _ _ _ _ us hl => match us, hl with | [_, _, _], _ => rfl
  have g_sign : Mt l.prog w K mg base C "sign" 6 ["self", "names"] (gSign C) := by
    obtain ⟨oc, od, kV, doc, pm, an, cdv, ct, osl, l2, c2⟩ := d_sign.l
    have F := fun_mk (st := inClass (topS 34) 9) l2 c2 d_sign.k
    exact ⟨f_sign, _, ok_sign (k := 5) F T (g_three_of.up (by decide : 5 ≤ 5)) (g_lot_sign.up (by decide : 1 ≤ 5)) (g_order_sign.up (by decide : 2 ≤ 5)), ⟨m1sign, m2sign, d_sign.k⟩, F.binds (ps := ["self", "names"]) fun _ _ _ _ _ _ us hl => match us, hl with | [_, _], _ => rfl⟩
  have g_part : Mt l.prog w K mg base C "part" 6 ["self", "lot"] (gPart C) := by
    obtain ⟨oc, od, kV, doc, pm, an, cdv, ct, osl, l2, c2⟩ := d_part.l
    have F := fun_mk (st := inClass (topS 34) 10) l2 c2 d_part.k
    exact ⟨f_part, _, ok_part (k := 4) F T M (g_init.mono (by decide : 4 ≤ 4)) vC b_init (g_lot_of.up (by decide : 4 ≤ 5)) (g_threes.up (by decide : 2 ≤ 5)) (g_lot_sign.up (by decide : 1 ≤ 5)) zLen, ⟨m1part, m2part, d_part.k⟩, F.binds (ps := ["self", "lot"]) fun _ _ _ _ _ _ us hl => match us, hl with | [_, _], _ => rfl⟩
  obtain ⟨ocgetitem, odgetitem, kVgetitem, docgetitem, pmgetitem, angetitem, cdvgetitem, ctgetitem, oslgetitem, lgetitem, cgetitem⟩ := d___getitem__.l
  have Fgetitem := fun_mk (st := inClass (topS 34) 19) lgetitem cgetitem d___getitem__.k
  have g_getitem := ok_getI (P := l.prog) (w := w) (mg := mg) (base := base) (k := 6) Fgetitem T (g_sign.up (by decide : 6 ≤ 6))
  have b_getitem := Fgetitem.binds (ps := ["self", "at"]) fun _ _ _ _ _ _ us hl => match us, hl with | [_, _], _ => rfl
  obtain ⟨oceq, odeq, kVeq, doceq, pmeq, aneq, cdveq, cteq, osleq, leq, ceq⟩ := d___eq__.l
  have Feq := fun_mk (st := inClass (topS 34) 20) leq ceq d___eq__.k
  have g_eq := ok_eqC (P := l.prog) (w := w) (mg := mg) (base := base) (k := 0) Feq T oC zIsi vC
  have b_eq := Feq.binds (ps := ["self", "other"]) fun _ _ _ _ _ _ us hl => match us, hl with | [_, _], _ => rfl
  have g_checkLineX : FgX l.prog w K mg base "check_line" 2 ["line", "size"] (nL CBadLine) gCheckLineX := by
    obtain ⟨oc, od, kV, doc, pm, an, cdv, ct, osl, l2, c2⟩ := d_check_line.l
    have F := fun_mk (st := topS 16) l2 c2 d_check_line.k
    exact ⟨f_check_line, _, ok_checkLineX (k := 1) F TBadLine vBadLine (g_is_int.up (by decide : 1 ≤ 1)), PySem.W.mg_of X G a_check_line, d_check_line.k, F.binds (ps := ["line", "size"]) fun _ _ _ _ _ _ us hl => match us, hl with | [_, _], _ => rfl⟩
  have g_lotFromX : FgX l.prog w K mg base "lot_from_lines" 3 ["value", "size"] (nL CBadLine) gLotFromX := by
    obtain ⟨oc, od, kV, doc, pm, an, cdv, ct, osl, l2, c2⟩ := d_lot_from_lines.l
    have F := fun_mk (st := topS 24) l2 c2 d_lot_from_lines.k
    exact ⟨f_lot_from_lines, _, ok_lotFromX (k := 2) F TBadLine vBadLine (g_check_line.up (by decide : 2 ≤ 2)) (g_checkLineX.up (by decide : 2 ≤ 2)) zEnum, PySem.W.mg_of X G a_lot_from_lines, d_lot_from_lines.k, F.binds (ps := ["value", "size"]) fun _ _ _ _ _ _ us hl => match us, hl with | [_, _], _ => rfl⟩
  have g_lotOfX : FgX l.prog w K mg base "lot_of" 4 ["value", "size"] (nL CBadLine) gLotOfX := by
    obtain ⟨oc, od, kV, doc, pm, an, cdv, ct, osl, l2, c2⟩ := d_lot_of.l
    have F := fun_mk (st := topS 21) l2 c2 d_lot_of.k
    exact ⟨f_lot_of, _, ok_lotOfX (k := 3) F (g_check_size.up (by decide : 3 ≤ 3)) (g_lotFromX.up (by decide : 3 ≤ 3)) zIsi zList zTuple, PySem.W.mg_of X G a_lot_of, d_lot_of.k, F.binds (ps := ["value", "size"]) fun _ _ _ _ _ _ us hl => match us, hl with | [_, _], _ => rfl⟩
  have g_partX : MtX l.prog w K mg base C "part" 5 ["self", "lot"] (nL CBadLine) (gPartX C) := by
    obtain ⟨oc, od, kV, doc, pm, an, cdv, ct, osl, l2, c2⟩ := d_part.l
    have F := fun_mk (st := inClass (topS 34) 10) l2 c2 d_part.k
    exact ⟨f_part, _, ok_partX (k := 4) F T (g_lotOfX.up (by decide : 4 ≤ 4)), ⟨m1part, m2part, d_part.k⟩, F.binds (ps := ["self", "lot"]) fun _ _ _ _ _ _ us hl => match us, hl with | [_, _], _ => rfl⟩
  have g_partK : MtX l.prog w K mg base C "part" 5 ["self", "lot"] (nB CBadKind) (gPartK C) := by
    obtain ⟨oc, od, kV, doc, pm, an, cdv, ct, osl, l2, c2⟩ := d_part.l
    have F := fun_mk (st := inClass (topS 34) 10) l2 c2 d_part.k
    exact ⟨f_part, _, ok_partK (k := 4) F T TBadKind vBadKind (g_lot_of.up (by decide : 4 ≤ 4)), ⟨m1part, m2part, d_part.k⟩, F.binds (ps := ["self", "lot"]) fun _ _ _ _ _ _ us hl => match us, hl with | [_, _], _ => rfl⟩
  have g_lotManyK : FgX l.prog w K mg base "lot_of_many" 4 ["value", "size", "many", "word"] (nB CBadKind) gLotManyK := by
    obtain ⟨oc, od, kV, doc, pm, an, cdv, ct, osl, l2, c2⟩ := d_lot_of_many.l
    have F := fun_mk (st := topS 23) l2 c2 d_lot_of_many.k
    exact ⟨f_lot_of_many, _, ok_lotManyK (k := 3) F TBadKind vBadKind (g_check_size.up (by decide : 3 ≤ 3)) zIsi zList zTuple zLen, PySem.W.mg_of X G a_lot_of_many, d_lot_of_many.k, F.binds (ps := ["value", "size", "many", "word"]) fun _ _ _ _ _ _ us hl => match us, hl with | [_, _, _, _], _ => rfl⟩
  have g_threeOfK : FgX l.prog w K mg base "three_of" 5 ["value", "size"] (nB CBadKind) gThreeOfK := by
    obtain ⟨oc, od, kV, doc, pm, an, cdv, ct, osl, l2, c2⟩ := d_three_of.l
    have F := fun_mk (st := topS 22) l2 c2 d_three_of.k
    exact ⟨f_three_of, _, ok_threeOfK (k := 4) F (g_lotManyK.up (by decide : 4 ≤ 4)), PySem.W.mg_of X G a_three_of, d_three_of.k, F.binds (ps := ["value", "size"]) fun _ _ _ _ _ _ us hl => match us, hl with | [_, _], _ => rfl⟩
  have g_signK : MtX l.prog w K mg base C "sign" 6 ["self", "names"] (nB CBadKind) (gSignK C) := by
    obtain ⟨oc, od, kV, doc, pm, an, cdv, ct, osl, l2, c2⟩ := d_sign.l
    have F := fun_mk (st := inClass (topS 34) 9) l2 c2 d_sign.k
    exact ⟨f_sign, _, ok_signK (k := 5) F T (g_threeOfK.up (by decide : 5 ≤ 5)), ⟨m1sign, m2sign, d_sign.k⟩, F.binds (ps := ["self", "names"]) fun _ _ _ _ _ _ us hl => match us, hl with | [_, _], _ => rfl⟩
  have g_ordK : FgX l.prog w K mg base "order_sign" 1 ["names"] (nB CBadKind) gOrdSignK := by
    obtain ⟨oc, od, kV, doc, pm, an, cdv, ct, osl, l2, c2⟩ := d_order_sign.l
    have F := fun_mk (st := topS 20) l2 c2 d_order_sign.k
    exact ⟨f_order_sign, _, ok_ordSignK (k := 0) F TBadKind vBadKind zIsi zList zTuple, PySem.W.mg_of X G a_order_sign, d_order_sign.k, F.binds (ps := ["names"]) fun _ _ _ _ _ _ us hl => match us, hl with | [_], _ => rfl⟩
  have g_ordX : FgX l.prog w K mg base "order_sign" 2 ["names"] (nL CBadLine) gOrdSignX := by
    obtain ⟨oc, od, kV, doc, pm, an, cdv, ct, osl, l2, c2⟩ := d_order_sign.l
    have F := fun_mk (st := topS 20) l2 c2 d_order_sign.k
    exact ⟨f_order_sign, _, ok_ordSignX (k := 1) F TBadLine vBadLine (g_is_int.up (by decide : 1 ≤ 1)) zIsi zList zTuple zAll zEnum, PySem.W.mg_of X G a_order_sign, d_order_sign.k, F.binds (ps := ["names"]) fun _ _ _ _ _ _ us hl => match us, hl with | [_], _ => rfl⟩
  have g_pool : Fg l.prog w K mg base "_law_pool" 1 ["_law_script"] gPool := by
    obtain ⟨oc, od, kV, doc, pm, an, cdv, ct, osl, l2, c2⟩ := d__law_pool.l
    have F := fun_mk (st := topS 36) l2 c2 d__law_pool.k
    exact ⟨f__law_pool, _, ok_pool (k := 0) F zRange zLen zMin zInt, PySem.W.mg_of X G a__law_pool, d__law_pool.k, F.binds (ps := ["_law_script"]) fun _ _ _ _ _ _ us hl => match us, hl with | [_], _ => rfl⟩
  have g_next : Fg l.prog w K mg base "_law_next" 1 ["_law_pool_here", "_law_many"] gNext := by
    obtain ⟨oc, od, kV, doc, pm, an, cdv, ct, osl, l2, c2⟩ := d__law_next.l
    have F := fun_mk (st := topS 37) l2 c2 d__law_next.k
    exact ⟨f__law_next, _, ok_next (k := 0) F zLen zInt, PySem.W.mg_of X G a__law_next, d__law_next.k, F.binds (ps := ["_law_pool_here", "_law_many"]) fun _ _ _ _ _ _ us hl => match us, hl with | [_, _], _ => rfl⟩
  have g_size : Fg l.prog w K mg base "_law_size" 2 ["_law_pool_here", "_law_least", "_law_most"] gSize := by
    obtain ⟨oc, od, kV, doc, pm, an, cdv, ct, osl, l2, c2⟩ := d__law_size.l
    have F := fun_mk (st := topS 38) l2 c2 d__law_size.k
    exact ⟨f__law_size, _, ok_size (k := 1) F (g_next.up (by decide : 1 ≤ 1)) zInt zMax, PySem.W.mg_of X G a__law_size, d__law_size.k, F.binds (ps := ["_law_pool_here", "_law_least", "_law_most"]) fun _ _ _ _ _ _ us hl => match us, hl with | [_, _, _], _ => rfl⟩
  have g_turns : Fg l.prog w K mg base "_law_turns" 2 ["_law_pool_here", "_law_size_here", "_law_widest"] gTurns := by
    obtain ⟨oc, od, kV, doc, pm, an, cdv, ct, osl, l2, c2⟩ := d__law_turns.l
    have F := fun_mk (st := topS 39) l2 c2 d__law_turns.k
    exact ⟨f__law_turns, _, ok_turns (k := 1) F (g_next.up (by decide : 1 ≤ 1)) zRange zList zLen, PySem.W.mg_of X G a__law_turns, d__law_turns.k, F.binds (ps := ["_law_pool_here", "_law_size_here", "_law_widest"]) fun _ _ _ _ _ _ us hl => match us, hl with | [_, _, _], _ => rfl⟩
  have g_rows : Fg l.prog w K mg base "_law_rows" 1 ["_law_size_here", "_law_turns_here"] gRows := by
    obtain ⟨oc, od, kV, doc, pm, an, cdv, ct, osl, l2, c2⟩ := d__law_rows.l
    have F := fun_mk (st := topS 40) l2 c2 d__law_rows.k
    exact ⟨f__law_rows, _, ok_rows (k := 0) F zList zRange, PySem.W.mg_of X G a__law_rows, d__law_rows.k, F.binds (ps := ["_law_size_here", "_law_turns_here"]) fun _ _ _ _ _ _ us hl => match us, hl with | [_, _], _ => rfl⟩
  have g_times : Fg l.prog w K mg base "_law_times" 2 ["_law_size_here", "_law_turns_here"] gTimes := by
    obtain ⟨oc, od, kV, doc, pm, an, cdv, ct, osl, l2, c2⟩ := d__law_times.l
    have F := fun_mk (st := topS 41) l2 c2 d__law_times.k
    exact ⟨f__law_times, _, ok_times (k := 1) F (g_rows.up (by decide : 1 ≤ 1)) zLen zRange, PySem.W.mg_of X G a__law_times, d__law_times.k, F.binds (ps := ["_law_size_here", "_law_turns_here"]) fun _ _ _ _ _ _ us hl => match us, hl with | [_, _], _ => rfl⟩
  have g_table : Fg l.prog w K mg base "_law_table" 3 ["_law_size_here", "_law_turns_here"] gTable := by
    obtain ⟨oc, od, kV, doc, pm, an, cdv, ct, osl, l2, c2⟩ := d__law_table.l
    have F := fun_mk (st := topS 42) l2 c2 d__law_table.k
    exact ⟨f__law_table, _, ok_table (k := 2) F (g_times.up (by decide : 2 ≤ 2)) zRange, PySem.W.mg_of X G a__law_table, d__law_table.k, F.binds (ps := ["_law_size_here", "_law_turns_here"]) fun _ _ _ _ _ _ us hl => match us, hl with | [_, _], _ => rfl⟩
  have g_signs : Fg l.prog w K mg base "_law_signs" 1 ["_law_size_here", "_law_table_here"] gSigns := by
    obtain ⟨oc, od, kV, doc, pm, an, cdv, ct, osl, l2, c2⟩ := d__law_signs.l
    have F := fun_mk (st := topS 43) l2 c2 d__law_signs.k
    exact ⟨f__law_signs, _, ok_signs (k := 0) F zRange, PySem.W.mg_of X G a__law_signs, d__law_signs.k, F.binds (ps := ["_law_size_here", "_law_table_here"]) fun _ _ _ _ _ _ us hl => match us, hl with | [_, _], _ => rfl⟩
  have g_signsO : Fg l.prog w K mg base "_law_signs" 1 ["_law_size_here", "_law_table_here"] gSignsO := by
    obtain ⟨oc, od, kV, doc, pm, an, cdv, ct, osl, l2, c2⟩ := d__law_signs.l
    have F := fun_mk (st := topS 43) l2 c2 d__law_signs.k
    exact ⟨f__law_signs, _, ok_signsO (k := 0) F zRange, PySem.W.mg_of X G a__law_signs, d__law_signs.k, F.binds (ps := ["_law_size_here", "_law_table_here"]) fun _ _ _ _ _ _ us hl => match us, hl with | [_, _], _ => rfl⟩
  have g_spoil : Fg l.prog w K mg base "_law_spoil" 2 ["_law_pool_here", "_law_size_here", "_law_table_here"] gSpoil := by
    obtain ⟨oc, od, kV, doc, pm, an, cdv, ct, osl, l2, c2⟩ := d__law_spoil.l
    have F := fun_mk (st := topS 45) l2 c2 d__law_spoil.k
    exact ⟨f__law_spoil, _, ok_spoil (k := 1) F (g_next.up (by decide : 1 ≤ 1)) zRange zList zLen zInt, PySem.W.mg_of X G a__law_spoil, d__law_spoil.k, F.binds (ps := ["_law_pool_here", "_law_size_here", "_law_table_here"]) fun _ _ _ _ _ _ us hl => match us, hl with | [_, _, _], _ => rfl⟩
  have g_steady : Fg l.prog w K mg base "_law_steady" 1 ["_law_row"] gSteady := by
    obtain ⟨oc, od, kV, doc, pm, an, cdv, ct, osl, l2, c2⟩ := d__law_steady.l
    have F := fun_mk (st := topS 46) l2 c2 d__law_steady.k
    exact ⟨f__law_steady, _, ok_steady (k := 0) F zRange zLen, PySem.W.mg_of X G a__law_steady, d__law_steady.k, F.binds (ps := ["_law_row"]) fun _ _ _ _ _ _ us hl => match us, hl with | [_], _ => rfl⟩
  have g_good : Fg l.prog w K mg base "_law_good" 2 ["_law_row"] gGood := by
    obtain ⟨oc, od, kV, doc, pm, an, cdv, ct, osl, l2, c2⟩ := d__law_good.l
    have F := fun_mk (st := topS 47) l2 c2 d__law_good.k
    exact ⟨f__law_good, _, ok_good (k := 1) F (g_steady.up (by decide : 1 ≤ 1)) zRange zLen zList, PySem.W.mg_of X G a__law_good, d__law_good.k, F.binds (ps := ["_law_row"]) fun _ _ _ _ _ _ us hl => match us, hl with | [_], _ => rfl⟩
  have g_bad4 : Fg l.prog w K mg base "_law_bad_four" 3 ["_law_size_here", "_law_table_here"] gBad4 := by
    obtain ⟨oc, od, kV, doc, pm, an, cdv, ct, osl, l2, c2⟩ := d__law_bad_four.l
    have F := fun_mk (st := topS 48) l2 c2 d__law_bad_four.k
    exact ⟨f__law_bad_four, _, ok_bad4 (k := 2) F (g_good.up (by decide : 2 ≤ 2)) zRange, PySem.W.mg_of X G a__law_bad_four, d__law_bad_four.k, F.binds (ps := ["_law_size_here", "_law_table_here"]) fun _ _ _ _ _ _ us hl => match us, hl with | [_, _], _ => rfl⟩
  have g_lotL : Fg l.prog w K mg base "_law_lot" 2 ["_law_pool_here", "_law_size_here"] gLotL := by
    obtain ⟨oc, od, kV, doc, pm, an, cdv, ct, osl, l2, c2⟩ := d__law_lot.l
    have F := fun_mk (st := topS 44) l2 c2 d__law_lot.k
    exact ⟨f__law_lot, _, ok_lotL (k := 1) F (g_next.up (by decide : 1 ≤ 1)) zRange, PySem.W.mg_of X G a__law_lot, d__law_lot.k, F.binds (ps := ["_law_pool_here", "_law_size_here"]) fun _ _ _ _ _ _ us hl => match us, hl with | [_, _], _ => rfl⟩
  have g_partL : Fg l.prog w K mg base "_law_part" 1 ["_law_table_here", "_law_lot_here"] gPartL := by
    obtain ⟨oc, od, kV, doc, pm, an, cdv, ct, osl, l2, c2⟩ := d__law_part.l
    have F := fun_mk (st := topS 49) l2 c2 d__law_part.k
    exact ⟨f__law_part, _, ok_partL (k := 0) F zRange zLen, PySem.W.mg_of X G a__law_part, d__law_part.k, F.binds (ps := ["_law_table_here", "_law_lot_here"]) fun _ _ _ _ _ _ us hl => match us, hl with | [_, _], _ => rfl⟩
  have g_parity : Fg l.prog w K mg base "_law_parity" 1 ["_law_names"] gParity := by
    obtain ⟨oc, od, kV, doc, pm, an, cdv, ct, osl, l2, c2⟩ := d__law_parity.l
    have F := fun_mk (st := topS 50) l2 c2 d__law_parity.k
    exact ⟨f__law_parity, _, ok_parity (k := 0) F zRange zLen zInt, PySem.W.mg_of X G a__law_parity, d__law_parity.k, F.binds (ps := ["_law_names"]) fun _ _ _ _ _ _ us hl => match us, hl with | [_], _ => rfl⟩
  have g_mixed : Fg l.prog w K mg base "_law_mixed" 2 ["_law_pool_here", "_law_lot_here"] gMixed := by
    obtain ⟨oc, od, kV, doc, pm, an, cdv, ct, osl, l2, c2⟩ := d__law_mixed.l
    have F := fun_mk (st := topS 51) l2 c2 d__law_mixed.k
    exact ⟨f__law_mixed, _, ok_mixed (k := 1) F (g_next.up (by decide : 1 ≤ 1)) zRange zLen zList, PySem.W.mg_of X G a__law_mixed, d__law_mixed.k, F.binds (ps := ["_law_pool_here", "_law_lot_here"]) fun _ _ _ _ _ _ us hl => match us, hl with | [_, _], _ => rfl⟩
  have g_refused : Fg l.prog w K mg base "_law_refused" 7 ["_law_chart", "_law_word", "_law_size_here"] (gRefK C) := by
    obtain ⟨oc, od, kV, doc, pm, an, cdv, ct, osl, l2, c2⟩ := d__law_refused.l
    have F := fun_mk (st := topS 52) l2 c2 d__law_refused.k
    exact ⟨f__law_refused, _, ok_refK (k := 6) F T TBadKind TBadLine vBadKind vBadLine q_BadLine_BadKind (g_partX.up (by decide : 5 ≤ 6)) (g_partK.up (by decide : 5 ≤ 6)) (g_signK.up (by decide : 6 ≤ 6)) (g_ordX.up (by decide : 2 ≤ 6)) (g_ordK.up (by decide : 1 ≤ 6)), PySem.W.mg_of X G a__law_refused, d__law_refused.k, F.binds (ps := ["_law_chart", "_law_word", "_law_size_here"]) fun _ _ _ _ _ _ us hl => match us, hl with | [_, _, _], _ => rfl⟩
  have g_fault : Fg l.prog w K mg base "_law_fault_kept" 8 ["_law_chart", "_law_word", "_law_size_here"] (gFaultK C) := by
    obtain ⟨oc, od, kV, doc, pm, an, cdv, ct, osl, l2, c2⟩ := d__law_fault_kept.l
    have F := fun_mk (st := topS 53) l2 c2 d__law_fault_kept.k
    exact ⟨f__law_fault_kept, _, ok_faultK (k := 7) F (g_refused.up (by decide : 7 ≤ 7)), PySem.W.mg_of X G a__law_fault_kept, d__law_fault_kept.k, F.binds (ps := ["_law_chart", "_law_word", "_law_size_here"]) fun _ _ _ _ _ _ us hl => match us, hl with | [_, _, _], _ => rfl⟩
  have g_orders : Fg l.prog w K mg base "_law_orders_kept" 9 ["_law_pool_here", "_law_chart", "_law_size_here", "_law_table_here"] (gOrdK C) := by
    obtain ⟨oc, od, kV, doc, pm, an, cdv, ct, osl, l2, c2⟩ := d__law_orders_kept.l
    have F := fun_mk (st := topS 54) l2 c2 d__law_orders_kept.k
    exact ⟨f__law_orders_kept, _, ok_ordK (k := 8) F T (g_sign.up (by decide : 6 ≤ 8)) g_getitem (by decide) m1__getitem__ m2__getitem__ m3__getitem__ b_getitem (g_parity.up (by decide : 1 ≤ 8)) (g_mixed.up (by decide : 2 ≤ 8)) (g_next.up (by decide : 1 ≤ 8)) (g_order_sign.up (by decide : 2 ≤ 8)) zRange zSorted zTuple zList, PySem.W.mg_of X G a__law_orders_kept, d__law_orders_kept.k, F.binds (ps := ["_law_pool_here", "_law_chart", "_law_size_here", "_law_table_here"]) fun _ _ _ _ _ _ us hl => match us, hl with | [_, _, _, _], _ => rfl⟩
  have g_lots : Fg l.prog w K mg base "_law_lot_kept" 9 ["_law_pool_here", "_law_chart", "_law_size_here", "_law_table_here"] (gLotK C) := by
    obtain ⟨oc, od, kV, doc, pm, an, cdv, ct, osl, l2, c2⟩ := d__law_lot_kept.l
    have F := fun_mk (st := topS 55) l2 c2 d__law_lot_kept.k
    exact ⟨f__law_lot_kept, _, ok_lotK (k := 8) F T (g_part.up (by decide : 6 ≤ 8)) g_sound (by decide) g_eq (by decide) m1__eq__ m2__eq__ b_eq (g_lotL.up (by decide : 2 ≤ 8)) (g_mixed.up (by decide : 2 ≤ 8)) (g_partL.up (by decide : 1 ≤ 8)) (g_signs.up (by decide : 1 ≤ 8)) (g_bad4.up (by decide : 3 ≤ 8)) (g_fault.up (by decide : 8 ≤ 8)) zLen zTuple zList, PySem.W.mg_of X G a__law_lot_kept, d__law_lot_kept.k, F.binds (ps := ["_law_pool_here", "_law_chart", "_law_size_here", "_law_table_here"]) fun _ _ _ _ _ _ us hl => match us, hl with | [_, _, _, _], _ => rfl⟩
  have g_leav : Fg l.prog w K mg base "_law_leavings" 2 ["_law_size_here", "_law_table_here"] gLeav := by
    obtain ⟨oc, od, kV, doc, pm, an, cdv, ct, osl, l2, c2⟩ := d__law_leavings.l
    have F := fun_mk (st := topS 56) l2 c2 d__law_leavings.k
    exact ⟨f__law_leavings, _, ok_leav (k := 1) F (g_partL.up (by decide : 1 ≤ 1)) zRange, PySem.W.mg_of X G a__law_leavings, d__law_leavings.k, F.binds (ps := ["_law_size_here", "_law_table_here"]) fun _ _ _ _ _ _ us hl => match us, hl with | [_, _], _ => rfl⟩
  have g_glued : Fg l.prog w K mg base "_law_glued_kept" 7 ["_law_pool_here", "_law_size_here", "_law_table_here", "_law_parts"] (gGlued C) := by
    obtain ⟨oc, od, kV, doc, pm, an, cdv, ct, osl, l2, c2⟩ := d__law_glued_kept.l
    have F := fun_mk (st := topS 57) l2 c2 d__law_glued_kept.k
    exact ⟨f__law_glued_kept, _, ok_glued (k := 6) F T M g_init (by decide) vC b_init (g_part.up (by decide : 6 ≤ 6)) g_eq (by decide) m1__eq__ m2__eq__ b_eq (g_next.up (by decide : 1 ≤ 6)) (g_signsO.up (by decide : 1 ≤ 6)) zLen zTuple zList zRange zInt, PySem.W.mg_of X G a__law_glued_kept, d__law_glued_kept.k, F.binds (ps := ["_law_pool_here", "_law_size_here", "_law_table_here", "_law_parts"]) fun _ _ _ _ _ _ us hl => match us, hl with | [_, _, _, _], _ => rfl⟩
  exact ok_law (k := 8) FL T M (g_init.mono (by decide : 4 ≤ 8)) vC b_init (g_pool.up (by decide : 1 ≤ 9)) (g_size.up (by decide : 2 ≤ 9)) (g_next.up (by decide : 1 ≤ 9)) (g_turns.up (by decide : 2 ≤ 9)) (g_table.up (by decide : 3 ≤ 9)) (g_spoil.up (by decide : 2 ≤ 9)) (g_bad4.up (by decide : 3 ≤ 9)) (g_signs.up (by decide : 1 ≤ 9)) (g_lots.up (by decide : 9 ≤ 9)) (g_orders.up (by decide : 9 ≤ 9)) (g_leav.up (by decide : 2 ≤ 9)) (g_glued.up (by decide : 7 ≤ 9)) (g_fault.up (by decide : 8 ≤ 9)) (g_part.up (by decide : 6 ≤ 9)) (g_sound.up (by decide : 6 ≤ 8)) zRange zInt
theorem walk {l : PySem.W.OpenLaw} {q : Program} {loose : List Str} {XP : (Str → Option Value) → Heap → Prop} {YP : World → Heap → Prop} {d : DefRec} {K : Params → PySem.W.Frag} (hn : l.most = some 63) (hdf : d.params.defaults = [])
    (hY : ∀ (w : World) (h : Heap), YP w h → (K w.params).In h)
    (F : ∀ (w : World) (mg : Str → Option Value) (fa : Addr) (h : Heap), (K w.params).In h → h.Ns mainGlobals mg → mg d.name = some (.ref fa) →
      ∃ fd : FuncData, (∀ (s : Shared) (u : Value), BindsTo s fd ⟨[u], []⟩ [("_law_script", u)]) ∧ ∀ base : Heap, (K w.params).In base → base.Ns mainGlobals mg → FnOk l.prog w (K w.params) mg base CX0 10 fa fd ["_law_script"] (spF (K w.params) gLaw)) :
    PySem.W.WalkO q loose XP YP l.row.toRowW d [] (fun f vs => PySem.call f vs) :=
  L2.walk_of (n := 63) (k := 10) (x := "_law_script") (CX := fun _ => CX0) (sp := fun w => spF (K w.params) gLaw) hn (by decide) hdf ⟨rfl, by decide, by decide⟩ hY F
    (fun w H a ns hl _ hS => ⟨[], [.d (.lst (ns.map D.int))], [], .d (.bl true), [], .cons (.d (.lst (by
      rcases hS with hS | hS
      · exact .inl ⟨(fun z => nomatch z), hS⟩
      · exact .inr hS) (Dens.of_ints ns))) .nil, ⟨rfl, List.nodup_nil, fun k l e => by simp at e⟩, ⟨ns, rfl, hl, rfl, rfl, rfl⟩, fun S' v H' f o d => by
        cases d with
        | d d => exact d.of_bl⟩) fun _ _ _ _ _ z => z
end Bl
open PySem PySem.W PyProof.Rows in
set_option maxRecDepth 100000 in
set_option maxHeartbeats 0 in
theorem PySem.Challenge.cw_bentlines_k03_parts_and_order_holds : PySem.Challenge.rw_bentlines_k03_parts_and_order.Holds := by
  w_on; o_law; k_head; (case hw => w_witness2)
  k_fill
  refine Bl.walk (l := PySem.Challenge.rw_bentlines_k03_parts_and_order) rfl rfl (fun w h Y => PySem.W.kIn_of Y) ?F
  case F =>
    intro w mg fa h KX G hmg
    refine' Bl.all_mk KX G hmg ?a_is_int ?d_is_int ?a_check_int ?d_check_int ?a_choose ?d_choose ?a_check_size ?d_check_size ?a_check_line ?d_check_line ?a_pairs_in ?d_pairs_in ?a_threes_in ?d_threes_in ?a_fours_in ?d_fours_in ?a_order_sign ?d_order_sign ?a_is_sign ?d_is_sign ?a_check_signs ?d_check_signs ?a_changes ?d_changes ?a_good_row ?d_good_row ?a_signs_of_four ?d_signs_of_four ?a_lot_from_lines ?d_lot_from_lines ?a_lot_of_many ?d_lot_of_many ?a_three_of ?d_three_of ?a_lot_of ?d_lot_of ?a__law_pool ?d__law_pool ?a__law_next ?d__law_next ?a__law_size ?d__law_size ?a__law_turns ?d__law_turns ?a__law_rows ?d__law_rows ?a__law_times ?d__law_times ?a__law_table ?d__law_table ?a__law_signs ?d__law_signs ?a__law_spoil ?d__law_spoil ?a__law_steady ?d__law_steady ?a__law_good ?d__law_good ?a__law_bad_four ?d__law_bad_four ?a__law_lot ?d__law_lot ?a__law_part ?d__law_part ?a__law_parity ?d__law_parity ?a__law_mixed ?d__law_mixed ?a__law_refused ?d__law_refused ?a__law_fault_kept ?d__law_fault_kept ?a__law_orders_kept ?d__law_orders_kept ?a__law_lot_kept ?d__law_lot_kept ?a__law_leavings ?d__law_leavings ?a__law_glued_kept ?d__law_glued_kept ?aL ?dL ?zIsi0 ?zInt0 ?zBool0 ?zList0 ?zTuple0 ?zLen0 ?zEnum0 ?zSorted0 ?zAll0 ?zRange0 ?zDict0 ?zZip0 ?zMin0 ?zMax0 ?vComb0 ?vMost0 ?vC0 ?pg ?hd ?po ?sa ?n1 ?n2 ?n3 ?n4 ?o1 ?o2 ?o3 ?o4 ?mk ?kC ?cl1 ?cl2 ?m1lot_sign ?m2lot_sign ?d_lot_sign ?b1bad ?b2bad ?b3bad ?b4bad ?d_bad ?b1sound ?b2sound ?b3sound ?b4sound ?d_sound ?m1__init__ ?m2__init__ ?d___init__ ?m1sign ?m2sign ?d_sign ?m1part ?m2part ?d_part ?m1__getitem__ ?m2__getitem__ ?m3__getitem__ ?d___getitem__ ?m1__eq__ ?m2__eq__ ?d___eq__ ?x0BadKind ?x1BadKind ?x2BadKind ?x3BadKind ?x4BadKind ?x5BadKind ?x6BadKind ?x7BadKind ?x8BadKind ?x9BadKind ?x10BadKind ?x11BadKind ?x12BadKind ?x13BadKind ?xdBadKind ?x0BadLine ?x1BadLine ?x2BadLine ?x3BadLine ?x4BadLine ?x5BadLine ?x6BadLine ?x7BadLine ?x8BadLine ?x9BadLine ?x10BadLine ?x11BadLine ?x12BadLine ?x13BadLine ?xdBadLine ?w_BadLine_BadKind
    (case a_is_int => k_is)
    (case d_is_int => refine' Bl.Fx.of ?l ?c ?k; (case l => k_is); (case c => k_is); (case k => k_is))
    (case a_check_int => k_is)
    (case d_check_int => refine' Bl.Fx.of ?l ?c ?k; (case l => k_is); (case c => k_is); (case k => k_is))
    (case a_choose => k_is)
    (case d_choose => refine' Bl.Fx.of ?l ?c ?k; (case l => k_is); (case c => k_is); (case k => k_is))
    (case a_check_size => k_is)
    (case d_check_size => refine' Bl.Fx.of ?l ?c ?k; (case l => k_is); (case c => k_is); (case k => k_is))
    (case a_check_line => k_is)
    (case d_check_line => refine' Bl.Fx.of ?l ?c ?k; (case l => k_is); (case c => k_is); (case k => k_is))
    (case a_pairs_in => k_is)
    (case d_pairs_in => refine' Bl.Fx.of ?l ?c ?k; (case l => k_is); (case c => k_is); (case k => k_is))
    (case a_threes_in => k_is)
    (case d_threes_in => refine' Bl.Fx.of ?l ?c ?k; (case l => k_is); (case c => k_is); (case k => k_is))
    (case a_fours_in => k_is)
    (case d_fours_in => refine' Bl.Fx.of ?l ?c ?k; (case l => k_is); (case c => k_is); (case k => k_is))
    (case a_order_sign => k_is)
    (case d_order_sign => refine' Bl.Fx.of ?l ?c ?k; (case l => k_is); (case c => k_is); (case k => k_is))
    (case a_is_sign => k_is)
    (case d_is_sign => refine' Bl.Fx.of ?l ?c ?k; (case l => k_is); (case c => k_is); (case k => k_is))
    (case a_check_signs => k_is)
    (case d_check_signs => refine' Bl.Fx.of ?l ?c ?k; (case l => k_is); (case c => k_is); (case k => k_is))
    (case a_changes => k_is)
    (case d_changes => refine' Bl.Fx.of ?l ?c ?k; (case l => k_is); (case c => k_is); (case k => k_is))
    (case a_good_row => k_is)
    (case d_good_row => refine' Bl.Fx.of ?l ?c ?k; (case l => k_is); (case c => k_is); (case k => k_is))
    (case a_signs_of_four => k_is)
    (case d_signs_of_four => refine' Bl.Fx.of ?l ?c ?k; (case l => k_is); (case c => k_is); (case k => k_is))
    (case a_lot_from_lines => k_is)
    (case d_lot_from_lines => refine' Bl.Fx.of ?l ?c ?k; (case l => k_is); (case c => k_is); (case k => k_is))
    (case a_lot_of_many => k_is)
    (case d_lot_of_many => refine' Bl.Fx.of ?l ?c ?k; (case l => k_is); (case c => k_is); (case k => k_is))
    (case a_three_of => k_is)
    (case d_three_of => refine' Bl.Fx.of ?l ?c ?k; (case l => k_is); (case c => k_is); (case k => k_is))
    (case a_lot_of => k_is)
    (case d_lot_of => refine' Bl.Fx.of ?l ?c ?k; (case l => k_is); (case c => k_is); (case k => k_is))
    (case a__law_pool => k_is)
    (case d__law_pool => refine' Bl.Fx.of ?l ?c ?k; (case l => k_is); (case c => k_is); (case k => k_is))
    (case a__law_next => k_is)
    (case d__law_next => refine' Bl.Fx.of ?l ?c ?k; (case l => k_is); (case c => k_is); (case k => k_is))
    (case a__law_size => k_is)
    (case d__law_size => refine' Bl.Fx.of ?l ?c ?k; (case l => k_is); (case c => k_is); (case k => k_is))
    (case a__law_turns => k_is)
    (case d__law_turns => refine' Bl.Fx.of ?l ?c ?k; (case l => k_is); (case c => k_is); (case k => k_is))
    (case a__law_rows => k_is)
    (case d__law_rows => refine' Bl.Fx.of ?l ?c ?k; (case l => k_is); (case c => k_is); (case k => k_is))
    (case a__law_times => k_is)
    (case d__law_times => refine' Bl.Fx.of ?l ?c ?k; (case l => k_is); (case c => k_is); (case k => k_is))
    (case a__law_table => k_is)
    (case d__law_table => refine' Bl.Fx.of ?l ?c ?k; (case l => k_is); (case c => k_is); (case k => k_is))
    (case a__law_signs => k_is)
    (case d__law_signs => refine' Bl.Fx.of ?l ?c ?k; (case l => k_is); (case c => k_is); (case k => k_is))
    (case a__law_spoil => k_is)
    (case d__law_spoil => refine' Bl.Fx.of ?l ?c ?k; (case l => k_is); (case c => k_is); (case k => k_is))
    (case a__law_steady => k_is)
    (case d__law_steady => refine' Bl.Fx.of ?l ?c ?k; (case l => k_is); (case c => k_is); (case k => k_is))
    (case a__law_good => k_is)
    (case d__law_good => refine' Bl.Fx.of ?l ?c ?k; (case l => k_is); (case c => k_is); (case k => k_is))
    (case a__law_bad_four => k_is)
    (case d__law_bad_four => refine' Bl.Fx.of ?l ?c ?k; (case l => k_is); (case c => k_is); (case k => k_is))
    (case a__law_lot => k_is)
    (case d__law_lot => refine' Bl.Fx.of ?l ?c ?k; (case l => k_is); (case c => k_is); (case k => k_is))
    (case a__law_part => k_is)
    (case d__law_part => refine' Bl.Fx.of ?l ?c ?k; (case l => k_is); (case c => k_is); (case k => k_is))
    (case a__law_parity => k_is)
    (case d__law_parity => refine' Bl.Fx.of ?l ?c ?k; (case l => k_is); (case c => k_is); (case k => k_is))
    (case a__law_mixed => k_is)
    (case d__law_mixed => refine' Bl.Fx.of ?l ?c ?k; (case l => k_is); (case c => k_is); (case k => k_is))
    (case a__law_refused => k_is)
    (case d__law_refused => refine' Bl.Fx.of ?l ?c ?k; (case l => k_is); (case c => k_is); (case k => k_is))
    (case a__law_fault_kept => k_is)
    (case d__law_fault_kept => refine' Bl.Fx.of ?l ?c ?k; (case l => k_is); (case c => k_is); (case k => k_is))
    (case a__law_orders_kept => k_is)
    (case d__law_orders_kept => refine' Bl.Fx.of ?l ?c ?k; (case l => k_is); (case c => k_is); (case k => k_is))
    (case a__law_lot_kept => k_is)
    (case d__law_lot_kept => refine' Bl.Fx.of ?l ?c ?k; (case l => k_is); (case c => k_is); (case k => k_is))
    (case a__law_leavings => k_is)
    (case d__law_leavings => refine' Bl.Fx.of ?l ?c ?k; (case l => k_is); (case c => k_is); (case k => k_is))
    (case a__law_glued_kept => k_is)
    (case d__law_glued_kept => refine' Bl.Fx.of ?l ?c ?k; (case l => k_is); (case c => k_is); (case k => k_is))
    (case aL => k_is)
    (case dL => refine' Bl.Fx.of ?l ?c ?k; (case l => k_is); (case c => k_is); (case k => k_is))
    (case zIsi0 => k_is)
    (case zInt0 => k_is)
    (case zBool0 => k_is)
    (case zList0 => k_is)
    (case zTuple0 => k_is)
    (case zLen0 => k_is)
    (case zEnum0 => k_is)
    (case zSorted0 => k_is)
    (case zAll0 => k_is)
    (case zRange0 => k_is)
    (case zDict0 => k_is)
    (case zZip0 => k_is)
    (case zMin0 => k_is)
    (case zMax0 => k_is)
    (case vComb0 => k_is)
    (case vMost0 => k_is)
    (case vC0 => k_is)
    (case pg => k_is)
    (case hd => k_is)
    (case po => k_is)
    (case sa => k_is)
    (case n1 => k_is)
    (case n2 => k_is)
    (case n3 => k_is)
    (case n4 => k_is)
    (case o1 => k_is)
    (case o2 => k_is)
    (case o3 => k_is)
    (case o4 => k_is)
    (case mk => k_is)
    (case kC => k_is)
    (case cl1 => k_is)
    (case cl2 => k_is)
    (case m1lot_sign => k_is)
    (case m2lot_sign => k_is)
    (case d_lot_sign => refine' Bl.Fx.of ?l ?c ?k; (case l => k_is); (case c => k_is); (case k => k_is))
    (case b1bad => k_is)
    (case b2bad => k_is)
    (case b3bad => k_is)
    (case b4bad => k_is)
    (case d_bad => refine' Bl.Fx.of ?l ?c ?k; (case l => k_is); (case c => k_is); (case k => k_is))
    (case b1sound => k_is)
    (case b2sound => k_is)
    (case b3sound => k_is)
    (case b4sound => k_is)
    (case d_sound => refine' Bl.Fx.of ?l ?c ?k; (case l => k_is); (case c => k_is); (case k => k_is))
    (case m1__init__ => k_is)
    (case m2__init__ => k_is)
    (case d___init__ => refine' Bl.Fx.of ?l ?c ?k; (case l => k_is); (case c => k_is); (case k => k_is))
    (case m1sign => k_is)
    (case m2sign => k_is)
    (case d_sign => refine' Bl.Fx.of ?l ?c ?k; (case l => k_is); (case c => k_is); (case k => k_is))
    (case m1part => k_is)
    (case m2part => k_is)
    (case d_part => refine' Bl.Fx.of ?l ?c ?k; (case l => k_is); (case c => k_is); (case k => k_is))
    (case m1__getitem__ => k_is)
    (case m2__getitem__ => k_is)
    (case m3__getitem__ => k_is)
    (case d___getitem__ => refine' Bl.Fx.of ?l ?c ?k; (case l => k_is); (case c => k_is); (case k => k_is))
    (case m1__eq__ => k_is)
    (case m2__eq__ => k_is)
    (case d___eq__ => refine' Bl.Fx.of ?l ?c ?k; (case l => k_is); (case c => k_is); (case k => k_is))
    (case x0BadKind => k_is)
    (case x1BadKind => k_is)
    (case x2BadKind => k_is)
    (case x3BadKind => k_is)
    (case x4BadKind => k_is)
    (case x5BadKind => k_is)
    (case x6BadKind => k_is)
    (case x7BadKind => k_is)
    (case x8BadKind => k_is)
    (case x9BadKind => k_is)
    (case x10BadKind => k_is)
    (case x11BadKind => k_is)
    (case x12BadKind => k_is)
    (case x13BadKind => first | rfl | k_is)
    (case xdBadKind => refine' Bl.Fx.of ?l ?c ?k; (case l => k_is); (case c => k_is); (case k => k_is))
    (case x0BadLine => k_is)
    (case x1BadLine => k_is)
    (case x2BadLine => k_is)
    (case x3BadLine => k_is)
    (case x4BadLine => k_is)
    (case x5BadLine => k_is)
    (case x6BadLine => k_is)
    (case x7BadLine => k_is)
    (case x8BadLine => k_is)
    (case x9BadLine => k_is)
    (case x10BadLine => k_is)
    (case x11BadLine => k_is)
    (case x12BadLine => k_is)
    (case x13BadLine => first | rfl | k_is)
    (case xdBadLine => refine' Bl.Fx.of ?l ?c ?k; (case l => k_is); (case c => k_is); (case k => k_is))
    (case w_BadLine_BadKind => first | rfl | k_is)
#print axioms PySem.Challenge.cw_bentlines_k03_parts_and_order_holds
