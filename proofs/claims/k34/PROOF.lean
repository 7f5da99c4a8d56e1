import PyProof.Rows.All
import Wide.All
import OpenK.AllK
import Wide.FinOn
import Lean
import PyProof.EqAt
import PyProof.EqKinds
import PyProof.TupleCall
import KE.BitLaws
import KE.KRevIter
import KE.KUnpack
import PyProof.ZipIter
import PyProof.StrLawsChain
import PyProof.StrBlock
import PyProof.FitsReplace
import PySem.Challenge.RW_doubthall_k34_whole_speaker
theorem x0_2 {P:Prop} {B0 B1:Prop} (h:B0∧B1) (k:B0→B1→P):P :=
  k h.1 h.2
theorem x5_3 {P:Prop} {α0:Sort _} {α1:Sort _} {α2:Sort _} {α3:Sort _} {α4:Sort _} {B0 B1 B2:α0→α1→α2→α3→α4→Prop} (h:∃ (x0:α0) (x1:α1) (x2:α2) (x3:α3) (x4:α4),B0 x0 x1 x2 x3 x4∧B1 x0 x1 x2 x3 x4∧B2 x0 x1 x2 x3 x4) (k:∀ (x0:α0) (x1:α1) (x2:α2) (x3:α3) (x4:α4),B0 x0 x1 x2 x3 x4→B1 x0 x1 x2 x3 x4→B2 x0 x1 x2 x3 x4→P):P :=
  Exists.elim h fun x0 h=>Exists.elim h fun x1 h=>Exists.elim h fun x2 h=>Exists.elim h fun x3 h=>Exists.elim h fun x4 h=>k x0 x1 x2 x3 x4 h.1 h.2.1 h.2.2
theorem x6_4 {P:Prop} {α0:Sort _} {α1:Sort _} {α2:Sort _} {α3:Sort _} {α4:Sort _} {α5:Sort _} {B0 B1 B2 B3:α0→α1→α2→α3→α4→α5→Prop} (h:∃ (x0:α0) (x1:α1) (x2:α2) (x3:α3) (x4:α4) (x5:α5),B0 x0 x1 x2 x3 x4 x5∧B1 x0 x1 x2 x3 x4 x5∧B2 x0 x1 x2 x3 x4 x5∧B3 x0 x1 x2 x3 x4 x5) (k:∀ (x0:α0) (x1:α1) (x2:α2) (x3:α3) (x4:α4) (x5:α5),B0 x0 x1 x2 x3 x4 x5→B1 x0 x1 x2 x3 x4 x5→B2 x0 x1 x2 x3 x4 x5→B3 x0 x1 x2 x3 x4 x5→P):P :=
  Exists.elim h fun x0 h=>Exists.elim h fun x1 h=>Exists.elim h fun x2 h=>Exists.elim h fun x3 h=>Exists.elim h fun x4 h=>Exists.elim h fun x5 h=>k x0 x1 x2 x3 x4 x5 h.1 h.2.1 h.2.2.1 h.2.2.2
theorem x0_3 {P:Prop} {B0 B1 B2:Prop} (h:B0∧B1∧B2) (k:B0→B1→B2→P):P :=
  k h.1 h.2.1 h.2.2
theorem x0_4 {P:Prop} {B0 B1 B2 B3:Prop} (h:B0∧B1∧B2∧B3) (k:B0→B1→B2→B3→P):P :=
  k h.1 h.2.1 h.2.2.1 h.2.2.2
theorem x0_5 {P:Prop} {B0 B1 B2 B3 B4:Prop} (h:B0∧B1∧B2∧B3∧B4) (k:B0→B1→B2→B3→B4→P):P :=
  k h.1 h.2.1 h.2.2.1 h.2.2.2.1 h.2.2.2.2
theorem x0_6 {P:Prop} {B0 B1 B2 B3 B4 B5:Prop} (h:B0∧B1∧B2∧B3∧B4∧B5) (k:B0→B1→B2→B3→B4→B5→P):P :=
  k h.1 h.2.1 h.2.2.1 h.2.2.2.1 h.2.2.2.2.1 h.2.2.2.2.2
theorem x1_2 {P:Prop} {α0:Sort _} {B0 B1:α0→Prop} (h:∃ (x0:α0),B0 x0∧B1 x0) (k:∀ (x0:α0),B0 x0→B1 x0→P):P :=
  Exists.elim h fun x0 h=>k x0 h.1 h.2
theorem x1_3 {P:Prop} {α0:Sort _} {B0 B1 B2:α0→Prop} (h:∃ (x0:α0),B0 x0∧B1 x0∧B2 x0) (k:∀ (x0:α0),B0 x0→B1 x0→B2 x0→P):P :=
  Exists.elim h fun x0 h=>k x0 h.1 h.2.1 h.2.2
theorem x1_4 {P:Prop} {α0:Sort _} {B0 B1 B2 B3:α0→Prop} (h:∃ (x0:α0),B0 x0∧B1 x0∧B2 x0∧B3 x0) (k:∀ (x0:α0),B0 x0→B1 x0→B2 x0→B3 x0→P):P :=
  Exists.elim h fun x0 h=>k x0 h.1 h.2.1 h.2.2.1 h.2.2.2
theorem x1_5 {P:Prop} {α0:Sort _} {B0 B1 B2 B3 B4:α0→Prop} (h:∃ (x0:α0),B0 x0∧B1 x0∧B2 x0∧B3 x0∧B4 x0) (k:∀ (x0:α0),B0 x0→B1 x0→B2 x0→B3 x0→B4 x0→P):P :=
  Exists.elim h fun x0 h=>k x0 h.1 h.2.1 h.2.2.1 h.2.2.2.1 h.2.2.2.2
theorem x2_1 {P:Prop} {α0:Sort _} {α1:Sort _} {B0:α0→α1→Prop} (h:∃ (x0:α0) (x1:α1),B0 x0 x1) (k:∀ (x0:α0) (x1:α1),B0 x0 x1→P):P :=
  Exists.elim h fun x0 h=>Exists.elim h fun x1 h=>k x0 x1 h
theorem x2_2 {P:Prop} {α0:Sort _} {α1:Sort _} {B0 B1:α0→α1→Prop} (h:∃ (x0:α0) (x1:α1),B0 x0 x1∧B1 x0 x1) (k:∀ (x0:α0) (x1:α1),B0 x0 x1→B1 x0 x1→P):P :=
  Exists.elim h fun x0 h=>Exists.elim h fun x1 h=>k x0 x1 h.1 h.2
theorem x2_3 {P:Prop} {α0:Sort _} {α1:Sort _} {B0 B1 B2:α0→α1→Prop} (h:∃ (x0:α0) (x1:α1),B0 x0 x1∧B1 x0 x1∧B2 x0 x1) (k:∀ (x0:α0) (x1:α1),B0 x0 x1→B1 x0 x1→B2 x0 x1→P):P :=
  Exists.elim h fun x0 h=>Exists.elim h fun x1 h=>k x0 x1 h.1 h.2.1 h.2.2
theorem x2_4 {P:Prop} {α0:Sort _} {α1:Sort _} {B0 B1 B2 B3:α0→α1→Prop} (h:∃ (x0:α0) (x1:α1),B0 x0 x1∧B1 x0 x1∧B2 x0 x1∧B3 x0 x1) (k:∀ (x0:α0) (x1:α1),B0 x0 x1→B1 x0 x1→B2 x0 x1→B3 x0 x1→P):P :=
  Exists.elim h fun x0 h=>Exists.elim h fun x1 h=>k x0 x1 h.1 h.2.1 h.2.2.1 h.2.2.2
theorem x2_5 {P:Prop} {α0:Sort _} {α1:Sort _} {B0 B1 B2 B3 B4:α0→α1→Prop} (h:∃ (x0:α0) (x1:α1),B0 x0 x1∧B1 x0 x1∧B2 x0 x1∧B3 x0 x1∧B4 x0 x1) (k:∀ (x0:α0) (x1:α1),B0 x0 x1→B1 x0 x1→B2 x0 x1→B3 x0 x1→B4 x0 x1→P):P :=
  Exists.elim h fun x0 h=>Exists.elim h fun x1 h=>k x0 x1 h.1 h.2.1 h.2.2.1 h.2.2.2.1 h.2.2.2.2
theorem x2_6 {P:Prop} {α0:Sort _} {α1:Sort _} {B0 B1 B2 B3 B4 B5:α0→α1→Prop} (h:∃ (x0:α0) (x1:α1),B0 x0 x1∧B1 x0 x1∧B2 x0 x1∧B3 x0 x1∧B4 x0 x1∧B5 x0 x1) (k:∀ (x0:α0) (x1:α1),B0 x0 x1→B1 x0 x1→B2 x0 x1→B3 x0 x1→B4 x0 x1→B5 x0 x1→P):P :=
  Exists.elim h fun x0 h=>Exists.elim h fun x1 h=>k x0 x1 h.1 h.2.1 h.2.2.1 h.2.2.2.1 h.2.2.2.2.1 h.2.2.2.2.2
theorem x3_1 {P:Prop} {α0:Sort _} {α1:Sort _} {α2:Sort _} {B0:α0→α1→α2→Prop} (h:∃ (x0:α0) (x1:α1) (x2:α2),B0 x0 x1 x2) (k:∀ (x0:α0) (x1:α1) (x2:α2),B0 x0 x1 x2→P):P :=
  Exists.elim h fun x0 h=>Exists.elim h fun x1 h=>Exists.elim h fun x2 h=>k x0 x1 x2 h
theorem x3_2 {P:Prop} {α0:Sort _} {α1:Sort _} {α2:Sort _} {B0 B1:α0→α1→α2→Prop} (h:∃ (x0:α0) (x1:α1) (x2:α2),B0 x0 x1 x2∧B1 x0 x1 x2) (k:∀ (x0:α0) (x1:α1) (x2:α2),B0 x0 x1 x2→B1 x0 x1 x2→P):P :=
  Exists.elim h fun x0 h=>Exists.elim h fun x1 h=>Exists.elim h fun x2 h=>k x0 x1 x2 h.1 h.2
theorem x3_3 {P:Prop} {α0:Sort _} {α1:Sort _} {α2:Sort _} {B0 B1 B2:α0→α1→α2→Prop} (h:∃ (x0:α0) (x1:α1) (x2:α2),B0 x0 x1 x2∧B1 x0 x1 x2∧B2 x0 x1 x2) (k:∀ (x0:α0) (x1:α1) (x2:α2),B0 x0 x1 x2→B1 x0 x1 x2→B2 x0 x1 x2→P):P :=
  Exists.elim h fun x0 h=>Exists.elim h fun x1 h=>Exists.elim h fun x2 h=>k x0 x1 x2 h.1 h.2.1 h.2.2
theorem x3_4 {P:Prop} {α0:Sort _} {α1:Sort _} {α2:Sort _} {B0 B1 B2 B3:α0→α1→α2→Prop} (h:∃ (x0:α0) (x1:α1) (x2:α2),B0 x0 x1 x2∧B1 x0 x1 x2∧B2 x0 x1 x2∧B3 x0 x1 x2) (k:∀ (x0:α0) (x1:α1) (x2:α2),B0 x0 x1 x2→B1 x0 x1 x2→B2 x0 x1 x2→B3 x0 x1 x2→P):P :=
  Exists.elim h fun x0 h=>Exists.elim h fun x1 h=>Exists.elim h fun x2 h=>k x0 x1 x2 h.1 h.2.1 h.2.2.1 h.2.2.2
theorem x3_5 {P:Prop} {α0:Sort _} {α1:Sort _} {α2:Sort _} {B0 B1 B2 B3 B4:α0→α1→α2→Prop} (h:∃ (x0:α0) (x1:α1) (x2:α2),B0 x0 x1 x2∧B1 x0 x1 x2∧B2 x0 x1 x2∧B3 x0 x1 x2∧B4 x0 x1 x2) (k:∀ (x0:α0) (x1:α1) (x2:α2),B0 x0 x1 x2→B1 x0 x1 x2→B2 x0 x1 x2→B3 x0 x1 x2→B4 x0 x1 x2→P):P :=
  Exists.elim h fun x0 h=>Exists.elim h fun x1 h=>Exists.elim h fun x2 h=>k x0 x1 x2 h.1 h.2.1 h.2.2.1 h.2.2.2.1 h.2.2.2.2
theorem x3_6 {P:Prop} {α0:Sort _} {α1:Sort _} {α2:Sort _} {B0 B1 B2 B3 B4 B5:α0→α1→α2→Prop} (h:∃ (x0:α0) (x1:α1) (x2:α2),B0 x0 x1 x2∧B1 x0 x1 x2∧B2 x0 x1 x2∧B3 x0 x1 x2∧B4 x0 x1 x2∧B5 x0 x1 x2) (k:∀ (x0:α0) (x1:α1) (x2:α2),B0 x0 x1 x2→B1 x0 x1 x2→B2 x0 x1 x2→B3 x0 x1 x2→B4 x0 x1 x2→B5 x0 x1 x2→P):P :=
  Exists.elim h fun x0 h=>Exists.elim h fun x1 h=>Exists.elim h fun x2 h=>k x0 x1 x2 h.1 h.2.1 h.2.2.1 h.2.2.2.1 h.2.2.2.2.1 h.2.2.2.2.2
theorem x4_2 {P:Prop} {α0:Sort _} {α1:Sort _} {α2:Sort _} {α3:Sort _} {B0 B1:α0→α1→α2→α3→Prop} (h:∃ (x0:α0) (x1:α1) (x2:α2) (x3:α3),B0 x0 x1 x2 x3∧B1 x0 x1 x2 x3) (k:∀ (x0:α0) (x1:α1) (x2:α2) (x3:α3),B0 x0 x1 x2 x3→B1 x0 x1 x2 x3→P):P :=
  Exists.elim h fun x0 h=>Exists.elim h fun x1 h=>Exists.elim h fun x2 h=>Exists.elim h fun x3 h=>k x0 x1 x2 x3 h.1 h.2
theorem x4_3 {P:Prop} {α0:Sort _} {α1:Sort _} {α2:Sort _} {α3:Sort _} {B0 B1 B2:α0→α1→α2→α3→Prop} (h:∃ (x0:α0) (x1:α1) (x2:α2) (x3:α3),B0 x0 x1 x2 x3∧B1 x0 x1 x2 x3∧B2 x0 x1 x2 x3) (k:∀ (x0:α0) (x1:α1) (x2:α2) (x3:α3),B0 x0 x1 x2 x3→B1 x0 x1 x2 x3→B2 x0 x1 x2 x3→P):P :=
  Exists.elim h fun x0 h=>Exists.elim h fun x1 h=>Exists.elim h fun x2 h=>Exists.elim h fun x3 h=>k x0 x1 x2 x3 h.1 h.2.1 h.2.2
theorem x4_5 {P:Prop} {α0:Sort _} {α1:Sort _} {α2:Sort _} {α3:Sort _} {B0 B1 B2 B3 B4:α0→α1→α2→α3→Prop} (h:∃ (x0:α0) (x1:α1) (x2:α2) (x3:α3),B0 x0 x1 x2 x3∧B1 x0 x1 x2 x3∧B2 x0 x1 x2 x3∧B3 x0 x1 x2 x3∧B4 x0 x1 x2 x3) (k:∀ (x0:α0) (x1:α1) (x2:α2) (x3:α3),B0 x0 x1 x2 x3→B1 x0 x1 x2 x3→B2 x0 x1 x2 x3→B3 x0 x1 x2 x3→B4 x0 x1 x2 x3→P):P :=
  Exists.elim h fun x0 h=>Exists.elim h fun x1 h=>Exists.elim h fun x2 h=>Exists.elim h fun x3 h=>k x0 x1 x2 x3 h.1 h.2.1 h.2.2.1 h.2.2.2.1 h.2.2.2.2
theorem x4_6 {P:Prop} {α0:Sort _} {α1:Sort _} {α2:Sort _} {α3:Sort _} {B0 B1 B2 B3 B4 B5:α0→α1→α2→α3→Prop} (h:∃ (x0:α0) (x1:α1) (x2:α2) (x3:α3),B0 x0 x1 x2 x3∧B1 x0 x1 x2 x3∧B2 x0 x1 x2 x3∧B3 x0 x1 x2 x3∧B4 x0 x1 x2 x3∧B5 x0 x1 x2 x3) (k:∀ (x0:α0) (x1:α1) (x2:α2) (x3:α3),B0 x0 x1 x2 x3→B1 x0 x1 x2 x3→B2 x0 x1 x2 x3→B3 x0 x1 x2 x3→B4 x0 x1 x2 x3→B5 x0 x1 x2 x3→P):P :=
  Exists.elim h fun x0 h=>Exists.elim h fun x1 h=>Exists.elim h fun x2 h=>Exists.elim h fun x3 h=>k x0 x1 x2 x3 h.1 h.2.1 h.2.2.1 h.2.2.2.1 h.2.2.2.2.1 h.2.2.2.2.2
theorem x5_6 {P:Prop} {α0:Sort _} {α1:Sort _} {α2:Sort _} {α3:Sort _} {α4:Sort _} {B0 B1 B2 B3 B4 B5:α0→α1→α2→α3→α4→Prop} (h:∃ (x0:α0) (x1:α1) (x2:α2) (x3:α3) (x4:α4),B0 x0 x1 x2 x3 x4∧B1 x0 x1 x2 x3 x4∧B2 x0 x1 x2 x3 x4∧B3 x0 x1 x2 x3 x4∧B4 x0 x1 x2 x3 x4∧B5 x0 x1 x2 x3 x4) (k:∀ (x0:α0) (x1:α1) (x2:α2) (x3:α3) (x4:α4),B0 x0 x1 x2 x3 x4→B1 x0 x1 x2 x3 x4→B2 x0 x1 x2 x3 x4→B3 x0 x1 x2 x3 x4→B4 x0 x1 x2 x3 x4→B5 x0 x1 x2 x3 x4→P):P :=
  Exists.elim h fun x0 h=>Exists.elim h fun x1 h=>Exists.elim h fun x2 h=>Exists.elim h fun x3 h=>Exists.elim h fun x4 h=>k x0 x1 x2 x3 x4 h.1 h.2.1 h.2.2.1 h.2.2.2.1 h.2.2.2.2.1 h.2.2.2.2.2
theorem x5_7 {P:Prop} {α0:Sort _} {α1:Sort _} {α2:Sort _} {α3:Sort _} {α4:Sort _} {B0 B1 B2 B3 B4 B5 B6:α0→α1→α2→α3→α4→Prop} (h:∃ (x0:α0) (x1:α1) (x2:α2) (x3:α3) (x4:α4),B0 x0 x1 x2 x3 x4∧B1 x0 x1 x2 x3 x4∧B2 x0 x1 x2 x3 x4∧B3 x0 x1 x2 x3 x4∧B4 x0 x1 x2 x3 x4∧B5 x0 x1 x2 x3 x4∧B6 x0 x1 x2 x3 x4) (k:∀ (x0:α0) (x1:α1) (x2:α2) (x3:α3) (x4:α4),B0 x0 x1 x2 x3 x4→B1 x0 x1 x2 x3 x4→B2 x0 x1 x2 x3 x4→B3 x0 x1 x2 x3 x4→B4 x0 x1 x2 x3 x4→B5 x0 x1 x2 x3 x4→B6 x0 x1 x2 x3 x4→P):P :=
  Exists.elim h fun x0 h=>Exists.elim h fun x1 h=>Exists.elim h fun x2 h=>Exists.elim h fun x3 h=>Exists.elim h fun x4 h=>k x0 x1 x2 x3 x4 h.1 h.2.1 h.2.2.1 h.2.2.2.1 h.2.2.2.2.1 h.2.2.2.2.2.1 h.2.2.2.2.2.2
theorem x6_5 {P:Prop} {α0:Sort _} {α1:Sort _} {α2:Sort _} {α3:Sort _} {α4:Sort _} {α5:Sort _} {B0 B1 B2 B3 B4:α0→α1→α2→α3→α4→α5→Prop} (h:∃ (x0:α0) (x1:α1) (x2:α2) (x3:α3) (x4:α4) (x5:α5),B0 x0 x1 x2 x3 x4 x5∧B1 x0 x1 x2 x3 x4 x5∧B2 x0 x1 x2 x3 x4 x5∧B3 x0 x1 x2 x3 x4 x5∧B4 x0 x1 x2 x3 x4 x5) (k:∀ (x0:α0) (x1:α1) (x2:α2) (x3:α3) (x4:α4) (x5:α5),B0 x0 x1 x2 x3 x4 x5→B1 x0 x1 x2 x3 x4 x5→B2 x0 x1 x2 x3 x4 x5→B3 x0 x1 x2 x3 x4 x5→B4 x0 x1 x2 x3 x4 x5→P):P :=
  Exists.elim h fun x0 h=>Exists.elim h fun x1 h=>Exists.elim h fun x2 h=>Exists.elim h fun x3 h=>Exists.elim h fun x4 h=>Exists.elim h fun x5 h=>k x0 x1 x2 x3 x4 x5 h.1 h.2.1 h.2.2.1 h.2.2.2.1 h.2.2.2.2
theorem x8_3 {P:Prop} {α0:Sort _} {α1:Sort _} {α2:Sort _} {α3:Sort _} {α4:Sort _} {α5:Sort _} {α6:Sort _} {α7:Sort _} {B0 B1 B2:α0→α1→α2→α3→α4→α5→α6→α7→Prop} (h:∃ (x0:α0) (x1:α1) (x2:α2) (x3:α3) (x4:α4) (x5:α5) (x6:α6) (x7:α7),B0 x0 x1 x2 x3 x4 x5 x6 x7∧B1 x0 x1 x2 x3 x4 x5 x6 x7∧B2 x0 x1 x2 x3 x4 x5 x6 x7) (k:∀ (x0:α0) (x1:α1) (x2:α2) (x3:α3) (x4:α4) (x5:α5) (x6:α6) (x7:α7),B0 x0 x1 x2 x3 x4 x5 x6 x7→B1 x0 x1 x2 x3 x4 x5 x6 x7→B2 x0 x1 x2 x3 x4 x5 x6 x7→P):P :=
  Exists.elim h fun x0 h=>Exists.elim h fun x1 h=>Exists.elim h fun x2 h=>Exists.elim h fun x3 h=>Exists.elim h fun x4 h=>Exists.elim h fun x5 h=>Exists.elim h fun x6 h=>Exists.elim h fun x7 h=>k x0 x1 x2 x3 x4 x5 x6 x7 h.1 h.2.1 h.2.2
theorem x8_4 {P:Prop} {α0:Sort _} {α1:Sort _} {α2:Sort _} {α3:Sort _} {α4:Sort _} {α5:Sort _} {α6:Sort _} {α7:Sort _} {B0 B1 B2 B3:α0→α1→α2→α3→α4→α5→α6→α7→Prop} (h:∃ (x0:α0) (x1:α1) (x2:α2) (x3:α3) (x4:α4) (x5:α5) (x6:α6) (x7:α7),B0 x0 x1 x2 x3 x4 x5 x6 x7∧B1 x0 x1 x2 x3 x4 x5 x6 x7∧B2 x0 x1 x2 x3 x4 x5 x6 x7∧B3 x0 x1 x2 x3 x4 x5 x6 x7) (k:∀ (x0:α0) (x1:α1) (x2:α2) (x3:α3) (x4:α4) (x5:α5) (x6:α6) (x7:α7),B0 x0 x1 x2 x3 x4 x5 x6 x7→B1 x0 x1 x2 x3 x4 x5 x6 x7→B2 x0 x1 x2 x3 x4 x5 x6 x7→B3 x0 x1 x2 x3 x4 x5 x6 x7→P):P :=
  Exists.elim h fun x0 h=>Exists.elim h fun x1 h=>Exists.elim h fun x2 h=>Exists.elim h fun x3 h=>Exists.elim h fun x4 h=>Exists.elim h fun x5 h=>Exists.elim h fun x6 h=>Exists.elim h fun x7 h=>k x0 x1 x2 x3 x4 x5 x6 x7 h.1 h.2.1 h.2.2.1 h.2.2.2
theorem x9_3 {P:Prop} {α0:Sort _} {α1:Sort _} {α2:Sort _} {α3:Sort _} {α4:Sort _} {α5:Sort _} {α6:Sort _} {α7:Sort _} {α8:Sort _} {B0 B1 B2:α0→α1→α2→α3→α4→α5→α6→α7→α8→Prop} (h:∃ (x0:α0) (x1:α1) (x2:α2) (x3:α3) (x4:α4) (x5:α5) (x6:α6) (x7:α7) (x8:α8),B0 x0 x1 x2 x3 x4 x5 x6 x7 x8∧B1 x0 x1 x2 x3 x4 x5 x6 x7 x8∧B2 x0 x1 x2 x3 x4 x5 x6 x7 x8) (k:∀ (x0:α0) (x1:α1) (x2:α2) (x3:α3) (x4:α4) (x5:α5) (x6:α6) (x7:α7) (x8:α8),B0 x0 x1 x2 x3 x4 x5 x6 x7 x8→B1 x0 x1 x2 x3 x4 x5 x6 x7 x8→B2 x0 x1 x2 x3 x4 x5 x6 x7 x8→P):P :=
  Exists.elim h fun x0 h=>Exists.elim h fun x1 h=>Exists.elim h fun x2 h=>Exists.elim h fun x3 h=>Exists.elim h fun x4 h=>Exists.elim h fun x5 h=>Exists.elim h fun x6 h=>Exists.elim h fun x7 h=>Exists.elim h fun x8 h=>k x0 x1 x2 x3 x4 x5 x6 x7 x8 h.1 h.2.1 h.2.2
theorem x10_4 {P:Prop} {α0:Sort _} {α1:Sort _} {α2:Sort _} {α3:Sort _} {α4:Sort _} {α5:Sort _} {α6:Sort _} {α7:Sort _} {α8:Sort _} {α9:Sort _} {B0 B1 B2 B3:α0→α1→α2→α3→α4→α5→α6→α7→α8→α9→Prop} (h:∃ (x0:α0) (x1:α1) (x2:α2) (x3:α3) (x4:α4) (x5:α5) (x6:α6) (x7:α7) (x8:α8) (x9:α9),B0 x0 x1 x2 x3 x4 x5 x6 x7 x8 x9∧B1 x0 x1 x2 x3 x4 x5 x6 x7 x8 x9∧B2 x0 x1 x2 x3 x4 x5 x6 x7 x8 x9∧B3 x0 x1 x2 x3 x4 x5 x6 x7 x8 x9) (k:∀ (x0:α0) (x1:α1) (x2:α2) (x3:α3) (x4:α4) (x5:α5) (x6:α6) (x7:α7) (x8:α8) (x9:α9),B0 x0 x1 x2 x3 x4 x5 x6 x7 x8 x9→B1 x0 x1 x2 x3 x4 x5 x6 x7 x8 x9→B2 x0 x1 x2 x3 x4 x5 x6 x7 x8 x9→B3 x0 x1 x2 x3 x4 x5 x6 x7 x8 x9→P):P :=
  Exists.elim h fun x0 h=>Exists.elim h fun x1 h=>Exists.elim h fun x2 h=>Exists.elim h fun x3 h=>Exists.elim h fun x4 h=>Exists.elim h fun x5 h=>Exists.elim h fun x6 h=>Exists.elim h fun x7 h=>Exists.elim h fun x8 h=>Exists.elim h fun x9 h=>k x0 x1 x2 x3 x4 x5 x6 x7 x8 x9 h.1 h.2.1 h.2.2.1 h.2.2.2
theorem xq {g:Prop} (h:∀ P:Prop,(g→P)→P):g:=h g id
theorem unS {n:Nat} {P:List PySem.Value→Prop} (h:∀ a t,t.length=n→P (a :: t)):∀ us:List PySem.Value,us.length=n + 1→P us:=fun us e=>by
  cases us with
  | nil=>cases e
  | cons a t=>exact h a t (Nat.succ.inj e)
theorem un1 {P:List PySem.Value→Prop} (h:∀ a,P [a]):∀ us:List PySem.Value,us.length=1→P us:=unS fun a t e=>List.eq_nil_of_length_eq_zero e ▸ h a
theorem un2 {P:List PySem.Value→Prop} (h:∀ a b,P [a,b]):∀ us:List PySem.Value,us.length=2→P us:=unS fun a=>un1 (P:=fun t=>P (a :: t)) (h a)
theorem un3 {P:List PySem.Value→Prop} (h:∀ a b c,P [a,b,c]):∀ us:List PySem.Value,us.length=3→P us:=unS fun a=>un2 (P:=fun t=>P (a :: t)) (h a)
theorem un4 {P:List PySem.Value→Prop} (h:∀ a b c d,P [a,b,c,d]):∀ us:List PySem.Value,us.length=4→P us:=unS fun a=>un3 (P:=fun t=>P (a :: t)) (h a)
theorem un5 {P:List PySem.Value→Prop} (h:∀ a b c d e,P [a,b,c,d,e]):∀ us:List PySem.Value,us.length=5→P us:=unS fun a=>un4 (P:=fun t=>P (a :: t)) (h a)
set_option compiler.extract_closed false

-- CHANGE: your row's module here,as the last of these rows
set_option Elab.async false
set_option linter.all false
set_option maxRecDepth 100000
namespace L2
open PySem PySem.Spec PyProof.Rows

noncomputable abbrev Key:=Sum Int Str
noncomputable def keyIs:Key→Value→Bool
  | .inl k,v=>Value.isInt k v
  | .inr x,v=>Value.isStrOf x v
noncomputable def keyH (w:World):Key→Int
  | .inl k=>hashInt k
  | .inr x=>hashStr w x
theorem keyIs_shape:∀ {k:Key} {v:Value},keyIs k v=true→(∃ i t,k=Sum.inl i∧v=Value.int i t)∨(∃ x t,k=Sum.inr x∧v=Value.str x t)
  | .inl i,v,h=>by
    obtain ⟨t,e⟩:=Value.isInt_shape (k:=i) (v:=v) h
    exact .inl ⟨i,t,rfl,e⟩
  | .inr x,v,h=>by
    obtain ⟨t,e⟩:=Value.isStrOf_shape (x:=x) (v:=v) h
    exact .inr ⟨x,t,rfl,e⟩
theorem key_ll (a b:Int):decide ((Sum.inl a:Key)=Sum.inl b)=(a==b):=by
  by_cases e:a=b
  · subst e;simp
  · have h:¬ (Sum.inl a:Key)=Sum.inl b:=fun q=>e (Sum.inl.inj q)
    rw [decide_eq_false h]
    exact (beq_eq_false_iff_ne.mpr e).symm
theorem key_rr (a b:Str):decide ((Sum.inr a:Key)=Sum.inr b)=decide (a=b):=by
  by_cases e:a=b
  · subst e;simp
  · have h:¬ (Sum.inr a:Key)=Sum.inr b:=fun q=>e (Sum.inr.inj q)
    rw [decide_eq_false h,decide_eq_false e]
theorem key_lr (a:Int) (b:Str):decide ((Sum.inl a:Key)=Sum.inr b)=false:=decide_eq_false (fun q=>nomatch q)
theorem key_rl (a:Str) (b:Int):decide ((Sum.inr a:Key)=Sum.inl b)=false:=decide_eq_false (fun q=>nomatch q)

noncomputable def mixKind (prog:Program) (w:World):PySem.KeyKind prog w Key where
  is:=keyIs
  hash:=keyH w
  inj:=fun v a b ha hb=>by
    rcases keyIs_shape ha with ⟨i,t,rfl,rfl⟩ | ⟨x,t,rfl,rfl⟩
    · rcases keyIs_shape hb with ⟨j,u,rfl,e⟩ | ⟨y,u,rfl,e⟩
      · injection e with e1 _;rw [e1]
      · exact nomatch e
    · rcases keyIs_shape hb with ⟨j,u,rfl,e⟩ | ⟨y,u,rfl,e⟩
      · exact nomatch e
      · injection e with e1 _;rw [e1]
  byValue:=fun k v h=>by
    rcases keyIs_shape h with ⟨i,t,rfl,rfl⟩ | ⟨x,t,rfl,rfl⟩ <;> rfl
  pyHash:=fun hv h=>by
    rcases keyIs_shape hv with ⟨i,t,rfl,rfl⟩ | ⟨x,t,rfl,rfl⟩
    · exact wpAny_pyHash_int h
    · exact wpAny_pyHash_str h
  eqBool:=fun hu hv h=>by
    rcases keyIs_shape hu with ⟨i,t,rfl,rfl⟩ | ⟨x,t,rfl,rfl⟩
    · rcases keyIs_shape hv with ⟨j,u,rfl,rfl⟩ | ⟨y,u,rfl,rfl⟩
      · rw [key_ll] at h;exact wpAny_eqBool_int h
      · rw [key_lr] at h;exact SeqAt.EqAt.int_str i t y u _ _ _ _ h
    · rcases keyIs_shape hv with ⟨j,u,rfl,rfl⟩ | ⟨y,u,rfl,rfl⟩
      · rw [key_rl] at h;exact SeqAt.EqAt.str_int x t j u _ _ _ _ h
      · rw [key_rr] at h;exact wpAny_eqBool_str h
  «strs»:=fun k x t v h=>by
    rcases keyIs_shape h with ⟨i,u,rfl,e⟩ | ⟨y,u,rfl,e⟩
    · exact nomatch e
    · injection e with e1 _
      subst e1
      cases v <;> rfl

end L2

namespace L2
open PySem PySem.Spec PyProof.Rows

inductive V where
  | non | bl (b:Bool) | int (i:Int) | str (x:Str) | byt (b:Array UInt8) | flt (b:UInt64) | ref (a:Addr) | ty (n:String)
  deriving DecidableEq

noncomputable def RelV:V→Value→Prop
  | .non,u=>u=Value.none
  | .bl b,u=>u=Value.bool b
  | .int i,u=>∃ t,u=Value.int i t
  | .str x,u=>∃ t,u=Value.str x t
  | .byt b,u=>∃ t,u=Value.bytes b t
  | .flt b,u=>∃ t,u=Value.float b t
  | .ref a,u=>u=Value.ref a
  | .ty n,u=>u=Value.type n

noncomputable abbrev Vals:List V→List Value→Prop:=Paired RelV
theorem Vals.length {xs:List V} {us:List Value} (r:Vals xs us):xs.length=us.length:=Paired.length r
theorem Vals.get:∀ {xs:List V} {us:List Value} {i:Nat} {x:V},Vals xs us→xs[i]?=some x→∃ u,us[i]?=some u∧RelV x u
  | _,_,_,_,.nil,e=>by simp at e
  | _,_,0,_,.cons r _,e=>by simp at e;subst e;exact ⟨_,rfl,r⟩
  | _,_,i + 1,x,.cons _ t,e=>by
    refine x1_2 (Vals.get (i:=i) (x:=x) t (by simpa using e)) fun u h1 h2 => ?_
    exact ⟨u,by simpa using h1,h2⟩
theorem Vals.set {x:V} {u:Value} (r:RelV x u):∀ {xs:List V} {us:List Value} (i:Nat),Vals xs us→Vals (xs.set i x) (us.set i u)
  | _,_,_,.nil => .nil
  | _,_,0,.cons _ t => .cons r t
  | _,_,i + 1,.cons q t => .cons q (Vals.set r i t)
theorem Vals.append:∀ {xs ys:List V} {us ws:List Value},Vals xs us→Vals ys ws→Vals (xs++ys) (us++ws)
  | _,_,_,_,.nil,s=>s
  | _,_,_,_,.cons r t,s => .cons r (Vals.append t s)
theorem Vals.take:∀ {xs:List V} {us:List Value} (n:Nat),Vals xs us→Vals (xs.take n) (us.take n)
  | _,_,0,_ => .nil
  | _,_,_ + 1,.nil => .nil
  | _,_,n + 1,.cons r t => .cons r (Vals.take n t)
theorem Vals.drop:∀ {xs:List V} {us:List Value} (n:Nat),Vals xs us→Vals (xs.drop n) (us.drop n)
  | _,_,0,r=>r
  | _,_,_ + 1,.nil => .nil
  | _,_,n + 1,.cons _ t=>Vals.drop n t
theorem Vals.none_of:∀ {xs:List V} {us:List Value} {i:Nat},Vals xs us→xs[i]?=none→us[i]?=none:=fun {xs us i} r e=>by
  have h1:=r.length
  have h2:xs.length≤i:=List.getElem?_eq_none_iff.mp e
  exact List.getElem?_eq_none_iff.mpr (by omega)

noncomputable def RelO:Option V→Option Value→Prop
  | some v,some u=>RelV v u
  | none,none=>True
  | _,_=>False
noncomputable def KV {κ:Type}:List (κ×V)→List (κ×Value)→Prop:=Paired fun (p : κ×V) (q : κ×Value)=>p.1=q.1∧RelV p.2 q.2

noncomputable def kV:Key→V
  | .inl i => .int i
  | .inr x => .str x

inductive HO where
  /-- a list -/
  | lst (xs:List V)
  /-- a tuple (never changes) -/
  | tup (xs:List V)
  /-- a dict whose keys are ints and texts;one whose keys are tuples of ints and texts (the empty one is both) -/
  | dK (kvs:List (Key×V)) | dT (kvs:List (List Key×V))
  /-- a set of ints: its members,its size -/
  | set (S:Int→Bool) (n:Nat)
  /-- an instance of the class at C,its dict at dx,its attributes -/
  | ins (C dx:Addr) (fs:List (Str×V))
  /-- the dict of the instance at x -/
  | own (x:Addr)
  /-- the dict of an exception -/
  | xd (fs:List (Str×V))
  /-- a bound method,f of x -/
  | met (f x:Addr)
  /-- a range object lo,lo + 1,.. below hi -/
  | rng (lo hi:Int)
  /-- a thing that is known to the object (the script;a dict while a loop walks it): read,never written while it is so -/
  | frz (o:Obj) (u:HO)
  /-- a code object's table -/
  | tbl (ps:Array Value)
  /-- any other thing,by what is true of its one object (a def of one's own: SetO a S n:=HO.ext fun h => ..) -/
  | ext (φ:Heap→Prop)

noncomputable abbrev Hp:=Addr→Option HO
noncomputable def upd (H:Hp) (a:Addr) (o:HO):Hp:=fun b=>if b=a then some o else H b
theorem upd_same {H:Hp} {a:Addr} {o:HO}:upd H a o a=some o:=by unfold upd;rw [if_pos rfl]
theorem upd_ne {H:Hp} {a b:Addr} {o:HO} (h:b≠a):upd H a o b=H b:=by unfold upd;rw [if_neg h]
theorem ne_of_none {H:Hp} {a b:Addr} {o:HO} (h:H a=some o) (h':H b=none):a≠b:=by
  intro e;subst e;rw [h] at h';cases h'

section
variable (P:Program) (w:World)
noncomputable def ObjOk (H:Hp) (h:Heap) (a:Addr):HO→Prop
  | .lst xs=>xs.length≤sizeLine∧∃ (its:List Value) (n:Nat),Vals xs its∧h.get? a=some { cls := .type "list",data := .seq its.toArray n }
  | .tup xs=>xs.length≤sizeLine∧∃ its:List Value,Vals xs its∧IsTup h a its.toArray
  | .dK kvs=>kvs.length≤sizeLine∧(a==sysModules)=false∧∃ vs,KV kvs vs∧h.DictOf (mixKind P w) a vs
  | .dT kvs=>kvs.length≤sizeLine∧(a==sysModules)=false∧∃ xs:List (List Key×Addr×Value),
      Paired (fun (p:List Key×V) (q:List Key×Addr×Value)=>p.1=q.1∧H q.2.1=some (.tup (p.1.map kV))∧RelV p.2 q.2.2) kvs xs ∧
      ∃ o es ep,h.get? a=some o∧o.ExactDict∧o.data = .dict es ep∧es.toList=xs.map (entryOfKey (tupleKind (mixKind P w)))∧(xs.map (·.1)).Nodup
  | .set S n=>h.SetOf (intKind P w) a S n
  | .ins C dx fs=>H dx=some (.own a)∧fs.length≤1000∧dx≠a∧h.get? a=some (PySem.W.instObj C dx) ∧
      ∃ mA,h.Ns1 dx mA∧(∀ f,RelO (fs.lookup f) (mA f))∧PySem.Within mA (fs.map (·.1))
  | .own _=>∃ o,h.get? a=some o
  | .xd fs=>∃ mA,h.Ns1 a mA∧∀ f,RelO (fs.lookup f) (mA f)
  | .rng lo hi=>∃ t u v,h.get? a=some { cls := .type "range",data := .fields #[.int lo t,.int hi u,.int 1 v] }
  | .frz o u=>h.get? a=some o∧ObjOk H h a u
  | .tbl ps=>h.get? a=some { cls := .none,data := .fields ps }
  | .met f x=>h.get? a=some (PySem.W.methodObj (.ref f) (.ref x))
  | .ext φ=>φ h∧(∃ o,h.get? a=some o)∧∀ h1 h2:Heap,φ h1→(∀ o,h1.get? a=some o→h2.get? a=some o)→φ h2
noncomputable def HOk (H:Hp) (h:Heap):Prop:=∀ a o,H a=some o→ObjOk P w H h a o
end

section
variable {P:Program} {w:World} {H H':Hp} {h h':Heap} {a:Addr} {o:HO}
theorem ObjOk.lt (x:ObjOk P w H h a o):a < h.objs.size:=by
  cases o with
  | lst xs=>obtain ⟨_,_,_,_,e⟩:=x;exact Heap.lt_size e
  | tup xs=>obtain ⟨_,_,_,p⟩:=x;exact p.lt
  | dK kvs=>obtain ⟨_,_,_,_,o,_,_,e,_⟩:=x;exact Heap.lt_size e
  | dT kvs=>obtain ⟨_,_,_,_,o,_,_,e,_⟩:=x;exact Heap.lt_size e
  | set S n=>obtain ⟨o,_,_,_,e,_⟩:=x;exact Heap.lt_size e
  | ins C dx fs=>obtain ⟨_,_,_,e,_⟩:=x;exact Heap.lt_size e
  | own y=>obtain ⟨_,e⟩:=x;exact Heap.lt_size e
  | xd fs=>obtain ⟨_,⟨_,_,_,e,_⟩,_⟩:=x;exact Heap.lt_size e
  | rng lo hi=>obtain ⟨_,_,_,e⟩:=x;exact Heap.lt_size e
  | frz ob u=>obtain ⟨e,_⟩:=x;exact Heap.lt_size e
  | tbl ps=>exact Heap.lt_size (show h.get? a=some _ from x)
  | met f y=>exact Heap.lt_size (show h.get? a=some _ from x)
  | ext φ=>obtain ⟨_,⟨_,e⟩,_⟩:=x;exact Heap.lt_size e
theorem Paired.mapP {α β:Type} {F G:α→β→Prop}:∀ {l₁:List α} {l₂:List β},Paired F l₁ l₂→(∀ a b,F a b→G a b)→Paired G l₁ l₂
  | _,_,.nil,_ => .nil
  | _,_,.cons r t,f => .cons (f _ _ r) (Paired.mapP t f)
theorem ObjOk.stay (x:ObjOk P w H h a o) (k:∀ b u,(b=a∨H b=some (.own a))→h.get? b=some u→h'.get? b=some u)
    (ho:∀ b,H b=some (.own a)→H' b=some (.own a)) (ht:∀ b xs,H b=some (.tup xs)→H' b=some (.tup xs)):ObjOk P w H' h' a o:=by
  induction o with
  | lst xs=>obtain ⟨z,its,n,r,e⟩:=x;exact ⟨z,its,n,r,k _ _ (.inl rfl) e⟩
  | tup xs=>obtain ⟨z,its,r,ob,e,c⟩:=x;exact ⟨z,its,r,ob,k _ _ (.inl rfl) e,c⟩
  | dK kvs=>obtain ⟨z,y,vs,r,ob,es,ep,e,c⟩:=x;exact ⟨z,y,vs,r,ob,es,ep,k _ _ (.inl rfl) e,c⟩
  | dT kvs =>
    refine xq fun _ kq=>?_
    obtain ⟨z,y,xs,r,ob,es,ep,e,c⟩:=x
    apply kq
    exact ⟨z,y,xs,Paired.mapP r fun p q z=>⟨z.1,ht _ _ z.2.1,z.2.2⟩,ob,es,ep,k _ _ (.inl rfl) e,c⟩
  | set S n=>obtain ⟨ob,es,ep,t,e,c⟩:=x;exact ⟨ob,es,ep,t,k _ _ (.inl rfl) e,c⟩
  | ins C dx fs =>
    refine xq fun _ kq=>?_
    obtain ⟨d,z,ne,e,mA,⟨od,es,ep,e2,c⟩,r⟩:=x
    apply kq
    exact ⟨ho _ d,z,ne,k _ _ (.inl rfl) e,mA,⟨od,es,ep,k _ _ (.inr d) e2,c⟩,r⟩
  | own y=>obtain ⟨ob,e⟩:=x;exact ⟨ob,k _ _ (.inl rfl) e⟩
  | xd fs=>obtain ⟨mA,⟨od,es,ep,e,c⟩,r⟩:=x;exact ⟨mA,⟨od,es,ep,k _ _ (.inl rfl) e,c⟩,r⟩
  | rng lo hi=>obtain ⟨t,u,v,e⟩:=x;exact ⟨t,u,v,k _ _ (.inl rfl) e⟩
  | frz ob u ih=>obtain ⟨e,q⟩:=x;exact ⟨k _ _ (.inl rfl) e,ih q⟩
  | tbl ps =>
    have e:h.get? a=some { cls := .none,data := .fields ps }:=x
    show h'.get? a=some { cls := .none,data := .fields ps }
    exact k a _ (.inl rfl) e
  | met f y =>
    have e:h.get? a=some (PySem.W.methodObj (.ref f) (.ref y)):=x
    show h'.get? a=some (PySem.W.methodObj (.ref f) (.ref y))
    exact k a _ (.inl rfl) e
  | ext φ=>obtain ⟨p,⟨o,e⟩,st⟩:=x;exact ⟨st _ _ p fun o q=>k _ _ (.inl rfl) q,⟨o,k _ _ (.inl rfl) e⟩,st⟩
theorem HOk.lt (x:HOk P w H h) (e:H a=some o):a < h.objs.size:=(x a o e).lt
theorem HOk.fresh (x:HOk P w H h) (e:h.objs.size≤a):H a=none:=by
  cases q:H a with
  | none=>rfl
  | some u=>exact absurd (Nat.lt_of_lt_of_le (x.lt q) e) (Nat.lt_irrefl _)
theorem HOk.kept (x:HOk P w H h) (k:∀ b u,h.get? b=some u→h'.get? b=some u):HOk P w H h':=fun a o e =>
  (x a o e).stay (fun b u _ q=>k b u q) (fun _ q=>q) fun _ _ q=>q
theorem HOk.laid (x:HOk P w H h) (k:∀ b u,h.get? b=some u→h'.get? b=some u) (hp:h.objs.size≤a) (new:ObjOk P w (upd H a o) h' a o):HOk P w (upd H a o) h':=fun b u e=>by
  have hn:=x.fresh hp
  by_cases hb:b=a
  · subst hb;rw [upd_same] at e;cases e;exact new
  · rw [upd_ne hb] at e
    exact (x b u e).stay (fun c v _ q=>k c v q) (fun c q=>by rw [upd_ne (ne_of_none q hn)];exact q) fun c xs q=>by rw [upd_ne (ne_of_none q hn)];exact q
end

noncomputable def Rd (H:Hp) (a:Addr) (u:HO):Prop:=H a=some u∨∃ o,H a=some (.frz o u)
theorem Rd.of {H:Hp} {a:Addr} {u:HO} (h:H a=some u):Rd H a u := .inl h
theorem Rd.ok {P:Program} {w:World} {H:Hp} {h:Heap} {a:Addr} {u:HO} (r:Rd H a u) (x:HOk P w H h):ObjOk P w H h a u:=by
  rcases r with r | ⟨o,r⟩
  · exact x a u r
  · obtain ⟨_,q⟩:=x a _ r
    exact q
noncomputable def Mut:Option HO→Prop
  | some (.lst _)=>True
  | some (.dK _)=>True
  | some (.dT _)=>True
  | some (.set _ _)=>True
  | some (.ins _ _ _)=>True
  | some (.ext _)=>True
  | _=>False
section
variable {P:Program} {w:World} {H:Hp} {h h':Heap} {x e:Addr} {o':HO}
theorem HOk.write (ok:HOk P w H h) (mu:Mut (H x)) (he:e=x∨H e=some (.own x)) (k:∀ b u,b≠e→h.get? b=some u→h'.get? b=some u) (heo:∃ u,h'.get? e=some u)
    (new:ObjOk P w (upd H x o') h' x o'):HOk P w (upd H x o') h':=fun b u q=>by
  have nown:∀ c y,H c=some (.own y)→c≠x:=fun c y r z=>by subst z;rw [r] at mu;exact mu
  have ntup:∀ c xs,H c=some (.tup xs)→c≠x:=fun c xs r z=>by subst z;rw [r] at mu;exact mu
  by_cases hb:b=x
  · subst hb;rw [upd_same] at q;cases q;exact new
  · rw [upd_ne hb] at q
    by_cases hbe:b=e
    · have q':H b=some (.own x):=by
        rcases he with z | z
        · exact absurd (hbe.trans z) hb
        · rw [hbe];exact z
      rw [q] at q';cases q'
      obtain ⟨v,hv⟩:=heo
      exact ⟨v,by rw [hbe];exact hv⟩
    · refine (ok b u q).stay (fun c v hc r=>k c v ?_ r) (fun c r=>by rw [upd_ne (nown c b r)];exact r) fun c xs r=>by rw [upd_ne (ntup c xs r)];exact r
      rcases hc with rfl | hc
      · exact hbe
      · rintro rfl
        rcases he with z | z
        · exact nown c b hc z
        · rw [hc] at z;cases z;exact hb rfl
end

structure Un (fs ex:List Addr) (H H':Hp) (h h':Heap):Prop where
  keep:∀ b o,h.get? b=some o→H b=none→b∉fs→b∉ex→h'.get? b=some o
  slot:∀ b o,h.get? b=some o→H b=none→b∈fs→b∉ex→∃ sl,h'.get? b=some { o with slots:=sl }
  free:∀ b o,h.get? b=some o→H b=none→b∉ex→H' b=none
  there:∀ b o,h.get? b=some o→b∉ex→∃ o',h'.get? b=some o'
  tups:∀ b xs,H b=some (.tup xs)→H' b=some (.tup xs)
  frzs:∀ b o u,H b=some (.frz o u)→H' b=some (.frz o u)
  tbls:∀ b ps,H b=some (.tbl ps)→∃ more,H' b=some (.tbl (ps++more))
section
variable {fs fs' ex ex':List Addr} {H H1 H2:Hp} {h h1 h2 h':Heap} {a x e:Addr} {o:HO}
theorem Un.any (u:Un fs ex H H1 h h1) {b:Addr} {ob:Obj} (q:h.get? b=some ob) (n:H b=none) (hx:b∉ex):∃ sl,h1.get? b=some { ob with slots:=sl }:=by
  by_cases hb:b∈fs
  · exact u.slot b ob q n hb hx
  · exact ⟨ob.slots,u.keep b ob q n hb hx⟩
theorem Un.kept (k:∀ b u,h.get? b=some u→h'.get? b=some u):Un fs ex H H h h' :=
  ⟨fun b ob q _ _ _=>k b ob q,fun b ob q _ _ _=>⟨ob.slots,k b ob q⟩,fun _ _ _ n _=>n,fun b ob q _=>⟨ob,k b ob q⟩,fun _ _ q=>q,fun _ _ _ q=>q,fun _ ps q=>⟨#[],by rw [q];simp⟩⟩
theorem Un.refl:Un fs ex H H h h:=Un.kept fun _ _ q=>q
theorem Un.laid (k:∀ b u,h.get? b=some u→h'.get? b=some u) (hp:h.objs.size≤a) (hn:H a=none):Un fs ex H (upd H a o) h h' where
  keep:=fun b u q _ _ _=>k b u q
  slot:=fun b u q _ _ _=>⟨u.slots,k b u q⟩
  free:=fun b u q n _=>by rw [upd_ne (Nat.ne_of_lt (Nat.lt_of_lt_of_le (Heap.lt_size q) hp))];exact n
  there:=fun b u q _=>⟨u,k b u q⟩
  tups:=fun b xs q=>by rw [upd_ne (ne_of_none q hn)];exact q
  frzs:=fun b u xs q=>by rw [upd_ne (ne_of_none q hn)];exact q
  tbls:=fun b ps q=>⟨#[],by rw [upd_ne (ne_of_none q hn),q];simp⟩
theorem Un.write (mu:Mut (H x)) (he:e=x∨H e=some (.own x)) (k:∀ b u,b≠e→h.get? b=some u→h'.get? b=some u) (heo:∃ u,h'.get? e=some u):Un fs ex H (upd H x o) h h':=by
  have hx:∀ b,H b=none→b≠x:=fun b n z=>by subst z;rw [n] at mu;exact mu
  have hb:∀ b,H b=none→b≠e:=fun b n z=>by
    subst z
    rcases he with r | r
    · exact hx b n r
    · rw [n] at r;cases r
  have hm:∀ b u,H b=some u→¬ Mut (some u)→b≠x:=fun b u q nm z=>by subst z;rw [q] at mu;exact nm mu
  refine ⟨fun b u q n _ _=>k b u (hb b n) q,fun b u q n _ _=>⟨u.slots,k b u (hb b n) q⟩,fun b u q n _=>by rw [upd_ne (hx b n)];exact n,fun b u q _ => ?_,
    fun b xs q=>by rw [upd_ne (hm b _ q fun z=>z)];exact q,fun b u xs q=>by rw [upd_ne (hm b _ q fun z=>z)];exact q,fun b ps q=>⟨#[],by rw [upd_ne (hm b _ q fun z=>z),q];simp⟩⟩
  by_cases hbe:b=e
  · subst hbe;exact heo
  · exact ⟨u,k b u hbe q⟩
end

noncomputable def trk (h:Heap) (H:Hp):List Addr:=(List.range h.objs.size).filter fun a=>(H a).isSome
noncomputable def hidT (h:Heap) (H:Hp):Heap:=PySem.W.hideAll h (trk h H)
theorem hidT_size (h:Heap) (H:Hp):(hidT h H).objs.size=h.objs.size:=PySem.W.hideAll_size _ _
theorem hidT_get {h:Heap} {H:Hp} {b:Addr} {o:Obj} (e:h.get? b=some o) (n:H b=none):(hidT h H).get? b=some o :=
  PySem.W.hideAll_get _ e fun hm=>by
    have q:(H b).isSome=true:=(List.mem_filter.mp hm).2
    rw [n] at q;simp at q
theorem of_hidT {h:Heap} {H:Hp} {b:Addr} {o:Obj} (e:(hidT h H).get? b=some o):h.get? b=some o∧H b=none:=by
  have e':h.get? b=some o:=PySem.W.of_hideAll (trk h H) e
  refine ⟨e',?_⟩
  cases q:H b with
  | none=>rfl
  | some x =>
    have hm:b∈trk h H:=List.mem_filter.mpr ⟨List.mem_range.mpr (Heap.lt_size e'),by simp [q]⟩
    have z:(hidT h H).get? b=none:=PySem.W.hideAll_none (trk h H) hm
    rw [z] at e;cases e

noncomputable def allNews (g h:Heap) (L:Addr):List (Addr×Obj):=(List.range h.objs.size).filterMap fun a=>if a=L∨(g.get? a).isSome=true then none else (h.get? a).map fun o=>(a,o)
noncomputable def rest (g h:Heap) (L d:Addr):List (Addr×Obj):=(allNews g h L).filter fun p=>decide (p.1≠d)
end L2

namespace L2
open PySem PySem.Spec PyProof.Rows

structure Mod (K:PySem.W.Frag) (mg:Str→Option Value) (base:Heap):Prop where
  kin:K.In base
  glob:base.Ns mainGlobals mg
  blt:∃ mb,base.Ns builtinsNs mb∧∀ x:Str,x ≠ "__name__"→mb x=bootBuiltins x
  nolimit:base.NoLimit

structure Cx where
  prog:Program
  w:World
  K:PySem.W.Frag
  mg:Str→Option Value
  base:Heap
  A:Around
  N:List Str
  s₀:Shared
  H₀:Hp
  env:Env
  outer:List Env
  stack:List Env
  ex:List Addr
  fn:Str→Bool
  calm:Bool
  pn:List (Addr×Obj)
  xe:Value→Shared→Prop
noncomputable def frs (l:List Env):List Addr:=l.filterMap (·.frame)
noncomputable abbrev Cx.fs (X:Cx):List Addr:=frs X.outer

noncomputable def Vis (sc:Scope) (x:Str):Prop:=sc.names.lookup x=some .local∨sc.names.lookup x=some .cell∨sc.names.lookup x=some .free
noncomputable def Loc (sc:Scope) (x:Str):Prop:=sc.names.lookup x=some .local∨sc.names.lookup x=some .cell
noncomputable def Look (env:Env) (h:Heap) (m:Str→Option Value) (x:Str) (u:Value):Prop :=
  (env.kindOf x=some .local∧m x=some u)∨((env.kindOf x=some .cell∨env.kindOf x=some .free)∧∃ c,env.cells.lookup x=some c∧h.IsCell c (some u))

structure Cx.Ok (X:Cx):Prop where
  mod:Mod X.K X.mg X.base
  kind:X.env.scope.kind = .function
  glob:X.env.globals=mainGlobals
  blt:X.env.builtins=builtinsNs
  above:X.s₀.heap.objs.size≤X.env.locals
  inj:∀ x y c,X.env.cells.lookup x=some c→X.env.cells.lookup y=some c→x=y
  has:∀ x,(X.env.kindOf x=some .cell∨X.env.kindOf x=some .free)→∃ c,X.env.cells.lookup x=some c
  cab:∀ x c,X.fn x=true→X.env.cells.lookup x=some c→X.s₀.heap.objs.size≤c
  hd:X.calm=true→X.A.handled=none
  frames:X.A.frames=some X.stack
  stk:X.stack=X.outer∨(X.stack=X.env :: X.outer∧X.env.frame=some X.env.locals)
  exf:∀ b∈X.ex,b≠X.env.locals∧∀ x c,X.env.cells.lookup x=some c→c≠b
  bs:∀ b o,X.base.get? b=some o→X.s₀.heap.get? b=some o∧X.H₀ b=none
  bsz:X.base.objs.size≤X.s₀.heap.objs.size
  noex:∀ b o,X.base.get? b=some o→b∉X.ex
  exfs:∀ b∈X.ex,b∉X.fs
  funs:X.s₀.heap.FunFrames X.base X.outer
  frf:∀ b∈X.fs,X.H₀ b=none

structure Inv (X:Cx) (pins:List (Addr×Obj)) (σ:List (Option V)) (H:Hp) (s:Shared):Prop where
  ok:X.Ok
  os:s.os=X.s₀.os
  bare:AllBare s.gens
  base:Un X.fs X.ex X.H₀ H X.s₀.heap s.heap
  loc:∃ m,s.heap.Ns X.env.locals m∧∀ (i:Nat) (x:Str) (v:V),X.N[i]?=some x→σ[i]?=some (some v)→Vis X.env.scope x→∃ u,RelV v u∧Look X.env s.heap m x u
  cell:∀ x c,X.env.cells.lookup x=some c→∃ v,s.heap.IsCell c v
  free:H X.env.locals=none
  freeC:∀ x c,X.env.cells.lookup x=some c→H c=none
  pin:∀ p∈X.pn++pins,s.heap.get? p.1=some p.2∧H p.1=none∧p.1≠X.env.locals∧p.1∉X.fs∧∀ v,p.2.data ≠ .cell v
  hok:HOk X.prog X.w H s.heap
  len:σ.length=X.N.length

section
variable {X:Cx} {pins:List (Addr×Obj)} {σ:List (Option V)} {H H':Hp} {s:Shared} {h':Heap}

theorem Cx.Ok.nofr (ok:X.Ok) {b:Addr} {o:Obj} (e:X.base.get? b=some o):b∉X.fs:=fun hb=>by
  have:=(ok.funs.mem hb).1
  rw [e] at this;cases this
theorem Inv.bs (I:Inv X pins σ H s):∀ b o,X.base.get? b=some o→s.heap.get? b=some o∧H b=none:=fun b o e =>
  ⟨I.base.keep b o (I.ok.bs b o e).1 (I.ok.bs b o e).2 (I.ok.nofr e) (I.ok.noex b o e),I.base.free b o (I.ok.bs b o e).1 (I.ok.bs b o e).2 (I.ok.noex b o e)⟩
theorem Inv.bk (I:Inv X pins σ H s):∀ b o,X.base.get? b=some o→s.heap.get? b=some o:=fun b o e=>(I.bs b o e).1
theorem Inv.mod (I:Inv X pins σ H s):Mod X.K X.mg X.base:=I.ok.mod
theorem Inv.kIn (I:Inv X pins σ H s):X.K.In s.heap:=I.ok.mod.kin.keeps I.bk
theorem Inv.nolimit (I:Inv X pins σ H s):s.heap.NoLimit:=I.ok.mod.nolimit.keeps I.bk
theorem Inv.lt (I:Inv X pins σ H s):X.env.locals < s.heap.objs.size:=let ⟨_,hn,_⟩:=I.loc;hn.lt
theorem Inv.sz (I:Inv X pins σ H s):X.s₀.heap.objs.size≤s.heap.objs.size:=Nat.le_trans I.ok.above (Nat.le_of_lt I.lt)
theorem Inv.nofs (I:Inv X pins σ H s) {a:Addr} (h:s.heap.objs.size≤a):a∉X.fs:=fun hb=>by
  refine xq fun _ kq=>?_
  obtain ⟨_,o,ho,_⟩:=I.ok.funs.mem hb
  apply kq
  exact absurd (Nat.lt_of_lt_of_le (Heap.lt_size ho) (Nat.le_trans I.sz h)) (Nat.lt_irrefl _)
theorem Inv.cne (I:Inv X pins σ H s):∀ x c,X.env.cells.lookup x=some c→c≠X.env.locals:=fun x c e z=>by
  refine xq fun _ kq=>?_
  refine x2_2 (I.cell x c e) fun v o ho hd => ?_
  refine x1_2 (I.loc) fun m zq1 _ => ?_
  obtain ⟨o',es,ep,ho',hd',_⟩:=zq1
  apply kq
  rw [z,ho'] at ho;cases ho;rw [hd'] at hd;cases hd
theorem Inv.funs (I:Inv X pins σ H s):s.heap.FunFrames X.base X.outer:=by
  have all:∀ (l:List Env),(∀ b∈frs l,b∈X.fs)→X.s₀.heap.FunFrames X.base l→s.heap.FunFrames X.base l:=by
    intro l
    induction l with
    | nil=>intro _ _;trivial
    | cons env r ih =>
      intro hs hl
      refine xq fun _ kq=>?_
      refine x0_3 (hl) fun hk zq1 hr => ?_
      obtain ⟨L,o,hf,hn,ho,hd⟩:=zq1
      have hL:L∈X.fs:=hs L (by unfold frs;rw [List.filterMap_cons,hf];exact List.mem_cons_self)
      obtain ⟨sl,e⟩:=I.base.slot L o ho (I.ok.frf L hL) hL fun z=>I.ok.exfs L z hL
      apply kq
      exact ⟨hk,⟨L,_,hf,hn,e,hd⟩,ih (fun b hb=>hs b (by unfold frs;rw [List.filterMap_cons,hf];exact List.mem_cons_of_mem _ hb)) hr⟩
  exact all X.outer (fun _ hb=>hb) I.ok.funs

theorem Inv.stack (I:Inv X pins σ H s):s.heap.FunFrames X.base X.stack:=by
  rcases I.ok.stk with e | ⟨e,hf⟩
  · rw [e];exact I.funs
  · rw [e]
    refine x1_2 (I.loc) fun m hn _ => ?_
    refine .cons (by rw [I.ok.kind];decide) hf hn ?_ I.funs
    exact Heap.get?_none_of_le (Nat.le_trans I.ok.bsz I.ok.above)
theorem Inv.stkSub (I:Inv X pins σ H s):∀ b∈frs X.stack,b∈X.env.locals :: X.fs:=fun b hb=>by
  rcases I.ok.stk with e | ⟨e,hf⟩
  · rw [e] at hb;exact List.mem_cons_of_mem _ hb
  · rw [e] at hb
    unfold frs at hb
    rw [List.filterMap_cons,hf] at hb
    exact hb
theorem Inv.stkFree (I:Inv X pins σ H s):∀ b∈frs X.stack,H b=none:=fun b hb=>by
  rcases List.mem_cons.mp (I.stkSub b hb) with e | hb
  · rw [e];exact I.free
  · refine xq fun _ kq=>?_
    obtain ⟨_,o,ho,_⟩:=I.ok.funs.mem hb
    apply kq
    exact I.base.free b o ho (I.ok.frf b hb) fun z=>I.ok.exfs b z hb

theorem Inv.step {g':Array GenState} {t':Nat} {d':Drawn} {ch:List Addr} (I:Inv X pins σ H s)
    (hch:∀ b∈ch,(b∈X.ex∨X.s₀.heap.objs.size≤b)∧b≠X.env.locals∧(∀ x c,X.env.cells.lookup x=some c→c≠b)∧∀ p∈X.pn++pins,p.1≠b)
    (keep:∀ b o,b≠X.env.locals→b∉X.fs→b∉ch→s.heap.get? b=some o→H b=none→h'.get? b=some o)
    (slot:∀ b o,b≠X.env.locals→b∈X.fs→b∉ch→s.heap.get? b=some o→H b=none→∃ sl,h'.get? b=some { o with slots:=sl }) (free:∀ b o,b∉ch→s.heap.get? b=some o→H b=none→H' b=none)
    (there:∀ b o,b∉ch→s.heap.get? b=some o→∃ o',h'.get? b=some o')
    (tups:∀ b xs,H b=some (.tup xs)→H' b=some (.tup xs)) (frzs:∀ b o u,H b=some (.frz o u)→H' b=some (.frz o u)) (tbls:∀ b ps,H b=some (.tbl ps)→∃ more,H' b=some (.tbl (ps++more)))
    (ns:∀ m,s.heap.Ns X.env.locals m→h'.Ns X.env.locals m) (hok:HOk X.prog X.w H' h') (hg:AllBare g') :
    Inv X pins σ H' { s with heap:=h',gens:=g',drawn:=d',toks:=t' }:=by
  have neL:∀ b o,X.s₀.heap.get? b=some o→b≠X.env.locals:=fun b o e=>Nat.ne_of_lt (Nat.lt_of_lt_of_le (Heap.lt_size e) I.ok.above)
  have neC:∀ b o,X.s₀.heap.get? b=some o→b∉X.ex→b∉ch:=fun b o e hx hb=>by
    rcases (hch b hb).1 with z | z
    · exact hx z
    · exact absurd (Nat.lt_of_lt_of_le (Heap.lt_size e) z) (Nat.lt_irrefl _)
  have cellK:∀ x c,X.env.cells.lookup x=some c→∀ v,s.heap.IsCell c v→h'.IsCell c v:=fun x c e v hq9=>x1_2 hq9 fun o ho hd=>by
    have nch:c∉ch:=fun z=>(hch c z).2.2.1 x c e rfl
    by_cases hc:c∈X.fs
    · obtain ⟨sl,q⟩:=slot c o (I.cne x c e) hc nch ho (I.freeC x c e)
      exact ⟨_,q,hd⟩
    · exact ⟨o,keep c o (I.cne x c e) hc nch ho (I.freeC x c e),hd⟩
  refine ⟨I.ok,I.os,hg,⟨fun b o e n hb hx => ?_,fun b o e n hb hx => ?_,fun b o e n hx => ?_,fun b o e hx => ?_,fun b xs e=>tups b xs (I.base.tups b xs e),fun b o xs e=>frzs b o xs (I.base.frzs b o xs e),fun b ps e => ?_⟩,?_,fun x c e => ?_,?_,fun x c e => ?_,fun p hp => ?_,hok,I.len⟩
  · exact keep b o (neL b o e) hb (neC b o e hx) (I.base.keep b o e n hb hx) (I.base.free b o e n hx)
  · obtain ⟨sl,e1⟩:=I.base.slot b o e n hb hx
    obtain ⟨sl',e2⟩:=slot b _ (neL b o e) hb (neC b o e hx) e1 (I.base.free b o e n hx)
    exact ⟨sl',e2⟩
  · obtain ⟨o',e1⟩:=I.base.there b o e hx
    exact free b o' (neC b o e hx) e1 (I.base.free b o e n hx)
  · obtain ⟨o',e1⟩:=I.base.there b o e hx
    exact there b o' (neC b o e hx) e1
  · obtain ⟨m1,e1⟩:=I.base.tbls b ps e
    obtain ⟨m2,e2⟩:=tbls b _ e1
    exact ⟨m1++m2,by rw [e2,Array.append_assoc]⟩
  · refine x1_2 (I.loc) fun m hn hl => ?_
    refine ⟨m,ns m hn,fun i x v e1 e2 e3 => ?_⟩
    refine x1_2 (hl i x v e1 e2 e3) fun u r l => ?_
    refine ⟨u,r,?_⟩
    rcases l with l | ⟨k,c,e,z⟩
    · exact .inl l
    · exact .inr ⟨k,c,e,cellK x c e _ z⟩
  · obtain ⟨v,z⟩:=I.cell x c e
    exact ⟨v,cellK x c e v z⟩
  · refine xq fun _ kq=>?_
    refine x1_2 (I.loc) fun m zq1 _ => ?_
    obtain ⟨o,_,_,ho,_⟩:=zq1
    apply kq
    exact free _ o (fun z=>(hch _ z).2.1 rfl) ho I.free
  · refine xq fun _ kq=>?_
    refine x2_2 (I.cell x c e) fun v o ho hd => ?_
    apply kq
    exact free c o (fun z=>(hch c z).2.2.1 x c e rfl) ho (I.freeC x c e)
  · refine xq fun _ kq=>?_
    refine x0_5 (I.pin p hp) fun e n ne nf d => ?_
    apply kq
    have nch:p.1∉ch:=fun z=>(hch p.1 z).2.2.2 p hp rfl
    exact ⟨keep p.1 p.2 ne nf nch e n,free p.1 p.2 nch e n,ne,nf,d⟩
theorem Inv.un {t':Nat} (I:Inv X pins σ H s) (u:Un X.fs [] H H' s.heap h') (hok:HOk X.prog X.w H' h'):Inv X pins σ H' { s with heap:=h',toks:=t' }:=by
  refine xq fun _ kq=>?_
  refine x1_2 (id I.loc) fun m zq1 _ => ?_
  obtain ⟨o,es,ep,ho,r⟩:=zq1
  obtain ⟨sl,hL⟩:=u.any ho I.free (by simp)
  apply kq
  exact I.step (g':=s.gens) (d':=s.drawn) (ch:=[]) (fun _ z=>nomatch z) (fun b o _ hb _ e n=>u.keep b o e n hb (by simp)) (fun b o _ hb _ e n=>u.slot b o e n hb (by simp)) (fun b o _ e n=>u.free b o e n (by simp)) (fun b o _ e=>u.there b o e (by simp)) u.tups u.frzs u.tbls (fun m' hm=>by
    refine xq fun _ kq=>?_
    refine x3_2 (hm) fun o' es' ep' ho' r' => ?_
    apply kq
    rw [ho] at ho';cases ho'
    exact ⟨_,es',ep',hL,r'⟩) hok I.bare
theorem Inv.call {g':Array GenState} {t':Nat} {d':Drawn} {ch:List Addr} (I:Inv X pins σ H s) (u:Un (frs X.stack) ch H H' s.heap h') (hok:HOk X.prog X.w H' h') (hg:AllBare g')
    (hch:∀ b∈ch,(b∈X.ex∨X.s₀.heap.objs.size≤b)∧b≠X.env.locals∧(∀ x c,X.env.cells.lookup x=some c→c≠b)∧∀ p∈X.pn++pins,p.1≠b) :
    Inv X pins σ H' { s with heap:=h',gens:=g',drawn:=d',toks:=t' }:=by
  refine xq fun _ kq=>?_
  refine x1_2 (id I.loc) fun m zq1 _ => ?_
  obtain ⟨o,es,ep,ho,r⟩:=zq1
  obtain ⟨sl,hL⟩:=u.any ho I.free fun z=>(hch _ z).2.1 rfl
  apply kq
  exact I.step (ch:=ch) hch (fun b o hL hb hc e n=>u.keep b o e n (fun z=>(List.mem_cons.mp (I.stkSub b z)).elim hL hb) hc) (fun b o _ _ hc e n=>u.any e n hc) (fun b o hc e n=>u.free b o e n hc) (fun b o hc e=>u.there b o e hc) u.tups u.frzs u.tbls (fun m' hm=>by
    refine xq fun _ kq=>?_
    refine x3_2 (hm) fun o' es' ep' ho' r' => ?_
    apply kq
    rw [ho] at ho';cases ho'
    exact ⟨_,es',ep',hL,r'⟩) hok hg
theorem Inv.turned {t':Nat} {it:Addr} (I:Inv X pins σ H s) (k:∀ b o,b≠it→s.heap.get? b=some o→h'.get? b=some o) (hn:H it=none) (hL:it≠X.env.locals)
    (h1:it∈X.ex∨X.s₀.heap.objs.size≤it) (h2:∀ x c,X.env.cells.lookup x=some c→c≠it) (h3:∀ p∈X.pn++pins,p.1≠it):Inv X pins σ H { s with heap:=h',toks:=t' }:=by
  have nit:∀ b u,H b=some u→b≠it:=fun b u e z=>by rw [z,hn] at e;cases e
  refine I.step (g':=s.gens) (d':=s.drawn) (ch:=[it]) (fun b hb => ?_) (fun b o _ _ hc e _=>k b o (fun z=>hc (by simp [z])) e) (fun b o _ _ hc e _=>⟨o.slots,k b o (fun z=>hc (by simp [z])) e⟩) (fun _ _ _ _ n=>n)
    (fun b o hc e=>⟨o,k b o (fun z=>hc (by simp [z])) e⟩) (fun _ _ e=>e) (fun _ _ _ e=>e) (fun b ps e=>⟨#[],by rw [e];simp⟩) (fun m hm => ?_) (fun b u e => ?_) I.bare
  · have e:b=it:=by simpa using hb
    subst e
    exact ⟨h1,hL,h2,h3⟩
  · refine xq fun _ kq=>?_
    refine x3_2 (hm) fun o es ep ho r => ?_
    apply kq
    exact ⟨o,es,ep,k _ o (Ne.symm hL) ho,r⟩
  · refine (I.hok b u e).stay (fun c v hc q=>k c v ?_ q) (fun _ q=>q) fun _ _ q=>q
    rcases hc with z | z
    · rw [z];exact nit b u e
    · exact nit c _ z
theorem Inv.tok (I:Inv X pins σ H s) (t:Nat):Inv X pins σ H { s with toks:=t }:=I.un (h':=s.heap) (t':=t) Un.refl I.hok
theorem Inv.kept {t':Nat} (I:Inv X pins σ H s) (k:∀ b u,s.heap.get? b=some u→h'.get? b=some u):Inv X pins σ H { s with heap:=h',toks:=t' }:=I.un (Un.kept k) (I.hok.kept k)
theorem Inv.laid {a:Addr} {o:HO} {t':Nat} (I:Inv X pins σ H s) (k:∀ b u,s.heap.get? b=some u→h'.get? b=some u) (hp:s.heap.objs.size≤a) (new:ObjOk X.prog X.w (upd H a o) h' a o) :
    Inv X pins σ (upd H a o) { s with heap:=h',toks:=t' }:=I.un (Un.laid k hp (I.hok.fresh hp)) (I.hok.laid k hp new)
theorem Inv.write {x e:Addr} {o:HO} {t':Nat} (I:Inv X pins σ H s) (mu:Mut (H x)) (he:e=x∨H e=some (.own x)) (k:∀ b u,b≠e→s.heap.get? b=some u→h'.get? b=some u) (heo:∃ u,h'.get? e=some u)
    (new:ObjOk X.prog X.w (upd H x o) h' x o):Inv X pins σ (upd H x o) { s with heap:=h',toks:=t' }:=I.un (Un.write mu he k heo) (I.hok.write mu he k heo new)
theorem Inv.weak {σ':List (Option V)} (I:Inv X pins σ H s) (hl:σ'.length=σ.length) (w:∀ (i:Nat) v,σ'[i]?=some (some v)→σ[i]?=some (some v)):Inv X pins σ' H s :=
  ⟨I.ok,I.os,I.bare,I.base,let ⟨m,hn,hl'⟩:=I.loc;⟨m,hn,fun i x v e1 e2 e3=>hl' i x v e1 (w i v e2) e3⟩,I.cell,I.free,I.freeC,I.pin,I.hok,hl.trans I.len⟩
theorem Inv.pins_of {pins':List (Addr×Obj)} (I:Inv X pins σ H s) (h:∀ p∈pins',s.heap.get? p.1=some p.2∧H p.1=none∧p.1≠X.env.locals∧p.1∉X.fs∧∀ v,p.2.data ≠ .cell v):Inv X pins' σ H s :=
  ⟨I.ok,I.os,I.bare,I.base,I.loc,I.cell,I.free,I.freeC,fun p hp=>(List.mem_append.mp hp).elim (fun z=>I.pin p (List.mem_append_left _ z)) (h p),I.hok,I.len⟩

theorem nodup_ix {N:List Str} (hN:N.Nodup) {i j:Nat} {x:Str} (a:N[i]?=some x) (b:N[j]?=some x):i=j:=by
  obtain ⟨h1,e1⟩:=List.getElem?_eq_some_iff.mp a
  obtain ⟨h2,e2⟩:=List.getElem?_eq_some_iff.mp b
  exact (List.getElem_inj hN).mp (e1.trans e2.symm)

theorem store_ok2 {M:Model} {A:Around} {E:Value→Shared→Prop} {i:Nat} {x:Str} {v:V} {u:Value} {Q:Unit→Shared→Prop} (I:Inv X pins σ H s) (hN:X.N.Nodup) (hi:X.N[i]?=some x) (hx:Loc X.env.scope x) (r:RelV v u)
    (h:∀ s',Inv X pins (σ.set i (some v)) H s'→(∃ a,Heap.SameBut a s.heap s'.heap∧(a=X.env.locals∨X.env.cells.lookup x=some a))→Q () s') (hf:X.fn x=true∨X.env.scope.names.lookup x=some .local:=by first | exact .inl rfl | exact .inr rfl | assumption):wpAny M A (storeName X.env x u) Q E s:=by
  refine x1_2 (id I.loc) fun m hn hl => ?_
  have hcls:(X.env.scope.kind == .class||(X.env.scope.kind == .module&&X.env.locals != X.env.globals))=false:=by rw [I.ok.kind];rfl
  have hiσ:i < σ.length:=by rw [I.len];exact (List.getElem?_eq_some_iff.mp hi).1
  have cne:=I.cne
  have tracked:∀ {a:Addr} {h':Heap},(∃ o,s.heap.get? a=some o∧H a=none)→Heap.SameBut a s.heap h'→HOk X.prog X.w H h':=fun {a h'} ha hs b ob e=>by
    refine x1_2 (ha) fun _ _ hfree => ?_
    refine (I.hok b ob e).stay (fun c w' hc q=>(hs.2 c ?_).trans q) (fun _ q=>q) fun _ _ q=>q
    rintro rfl
    rcases hc with rfl | hc
    · rw [hfree] at e;cases e
    · rw [hfree] at hc;cases hc
  rcases hx with hk | hk
  · refine wpAny_storeName_local hk hn (fun h' hn' hs => ?_) hcls
    refine xq fun _ kq=>?_
    refine x3_2 (id hn) fun oL _ _ hoL _ => ?_
    apply kq
    refine h _ ⟨I.ok,I.os,I.bare,⟨fun b o e n hb hx => ?_,fun b o e n hb hx => ?_,I.base.free,fun b o e hx => ?_,I.base.tups,I.base.frzs,I.base.tbls⟩,⟨_,hn',fun j y v' e1 e2 e3 => ?_⟩,fun y c e => ?_,I.free,I.freeC,fun p hp => ?_,tracked ⟨oL,hoL,I.free⟩ hs,by simpa using I.len⟩ ⟨_,hs,.inl rfl⟩
    · exact (hs.2 b (Nat.ne_of_lt (Nat.lt_of_lt_of_le (Heap.lt_size e) I.ok.above))).trans (I.base.keep b o e n hb hx)
    · obtain ⟨sl,e1⟩:=I.base.slot b o e n hb hx
      exact ⟨sl,(hs.2 b (Nat.ne_of_lt (Nat.lt_of_lt_of_le (Heap.lt_size e) I.ok.above))).trans e1⟩
    · obtain ⟨o',e1⟩:=I.base.there b o e hx
      exact ⟨o',(hs.2 b (Nat.ne_of_lt (Nat.lt_of_lt_of_le (Heap.lt_size e) I.ok.above))).trans e1⟩
    · by_cases hj:j=i
      · subst hj
        rw [hi] at e1;cases e1
        rw [List.getElem?_set_self hiσ] at e2
        cases e2
        exact ⟨u,r,.inl ⟨hk,by simp⟩⟩
      · rw [List.getElem?_set_ne (Ne.symm hj)] at e2
        refine x1_2 (hl j y v' e1 e2 e3) fun u' r' q => ?_
        refine ⟨u',r',?_⟩
        rcases q with ⟨k,e⟩ | ⟨k,c,e,z⟩
        · refine .inl ⟨k,?_⟩
          have:y≠x:=fun e=>hj (nodup_ix hN e1 (e ▸ hi))
          simp [this,e]
        · exact .inr ⟨k,c,e,z.sameBut hs (cne y c e)⟩
    · obtain ⟨w',z⟩:=I.cell y c e
      exact ⟨w',z.sameBut hs (cne y c e)⟩
    · refine xq fun _ kq=>?_
      refine x0_5 (I.pin p hp) fun e n ne nf d => ?_
      apply kq
      exact ⟨(hs.2 p.1 ne).trans e,n,ne,nf,d⟩
  · have hfn:X.fn x=true:=by
      rcases hf with z | z
      · exact z
      · rw [z] at hk;cases hk
    obtain ⟨c,hc⟩:=I.ok.has x (.inl hk)
    obtain ⟨w',z⟩:=I.cell x c hc
    refine wpAny_storeName_cell I.ok.kind hk hc z (fun h' hc' hs => ?_)
    refine x1_2 (id z) fun oc hoc hocd => ?_
    refine h { s with heap:=h' } ⟨I.ok,I.os,I.bare,⟨fun b o e n hb hx => ?_,fun b o e n hb hx => ?_,I.base.free,fun b o e hx => ?_,I.base.tups,I.base.frzs,I.base.tbls⟩,⟨m,hn.sameBut hs (Ne.symm (cne x c hc)),fun j y v' e1 e2 e3 => ?_⟩,fun y c' e => ?_,I.free,I.freeC,fun p hp => ?_,tracked ⟨oc,hoc,I.freeC x c hc⟩ hs,by simpa using I.len⟩ ⟨c,hs,.inr hc⟩
    · exact (hs.2 b (Nat.ne_of_lt (Nat.lt_of_lt_of_le (Heap.lt_size e) (I.ok.cab x c hfn hc)))).trans (I.base.keep b o e n hb hx)
    · obtain ⟨sl,e1⟩:=I.base.slot b o e n hb hx
      exact ⟨sl,(hs.2 b (Nat.ne_of_lt (Nat.lt_of_lt_of_le (Heap.lt_size e) (I.ok.cab x c hfn hc)))).trans e1⟩
    · obtain ⟨o',e1⟩:=I.base.there b o e hx
      exact ⟨o',(hs.2 b (Nat.ne_of_lt (Nat.lt_of_lt_of_le (Heap.lt_size e) (I.ok.cab x c hfn hc)))).trans e1⟩
    · by_cases hj:j=i
      · subst hj
        rw [hi] at e1;cases e1
        rw [List.getElem?_set_self hiσ] at e2
        cases e2
        exact ⟨u,r,.inr ⟨.inl hk,c,hc,hc'⟩⟩
      · rw [List.getElem?_set_ne (Ne.symm hj)] at e2
        refine x1_2 (hl j y v' e1 e2 e3) fun u' r' q => ?_
        refine ⟨u',r',?_⟩
        rcases q with q | ⟨k,c',e,z'⟩
        · exact .inl q
        · refine .inr ⟨k,c',e,z'.sameBut hs ?_⟩
          rintro rfl
          exact hj (nodup_ix hN e1 (I.ok.inj _ _ _ e hc ▸ hi))
    · by_cases hcc:c'=c
      · subst hcc;exact ⟨_,hc'⟩
      · obtain ⟨w2,z2⟩:=I.cell y c' e
        exact ⟨w2,z2.sameBut hs hcc⟩
    · refine xq fun _ kq=>?_
      refine x0_5 (I.pin p hp) fun e n ne nf d => ?_
      apply kq
      refine ⟨(hs.2 p.1 ?_).trans e,n,ne,nf,d⟩
      intro q
      rw [q,hoc] at e
      have q':oc=p.2:=Option.some.inj e
      exact d w' (by rw [← q'];exact hocd)
theorem store_ok {M:Model} {A:Around} {E:Value→Shared→Prop} {i:Nat} {x:Str} {v:V} {u:Value} {Q:Unit→Shared→Prop} (I:Inv X pins σ H s) (hN:X.N.Nodup) (hi:X.N[i]?=some x) (hx:Loc X.env.scope x) (r:RelV v u)
    (h:∀ s',Inv X pins (σ.set i (some v)) H s'→Q () s') (hf:X.fn x=true∨X.env.scope.names.lookup x=some .local:=by first | exact .inl rfl | exact .inr rfl | assumption):wpAny M A (storeName X.env x u) Q E s :=
  store_ok2 I hN hi hx r (fun s' I' _=>h s' I') hf
theorem Inv.call' {s':Shared} {ch:List Addr} (I:Inv X pins σ H s) (ho:s'.os=s.os) (u:Un (frs X.stack) ch H H' s.heap s'.heap) (hok:HOk X.prog X.w H' s'.heap) (hg:AllBare s'.gens)
    (hch:∀ b∈ch,(b∈X.ex∨X.s₀.heap.objs.size≤b)∧b≠X.env.locals∧(∀ x c,X.env.cells.lookup x=some c→c≠b)∧∀ p∈X.pn++pins,p.1≠b):Inv X pins σ H' s':=by
  refine xq fun _ kq=>?_
  obtain ⟨h',g',d',t',o'⟩:=s'
  apply kq
  have e:o'=s.os:=ho
  subst e
  exact I.call (g':=g') (t':=t') (d':=d') u hok hg hch
end

noncomputable abbrev XK:=Value→Option Addr→Hp→Prop
noncomputable abbrev St:=List (Option V)
noncomputable abbrev VK:=V→Hp→Prop
noncomputable abbrev TE:=St→Hp→VK→Prop
noncomputable abbrev TT:=St→Hp→(Bool→Hp→Prop)→Prop
noncomputable abbrev TA:=St→Hp→(List V→Hp→Prop)→Prop
structure Ends where
  nx:St→Hp→Prop
  rt:VK
  bk:St→Hp→Prop:=fun _ _=>False
  ct:St→Hp→Prop:=fun _ _=>False
noncomputable abbrev TS:=Ends→St→Hp→Prop

noncomputable def EP (X:Cx) (pins:List (Addr×Obj)) (σ:St) (Q:VK) (u:Value) (s':Shared):Prop:=∃ v H',Inv X pins σ H' s'∧RelV v u∧Q v H'
noncomputable def TP (X:Cx) (pins:List (Addr×Obj)) (σ:St) (Q:Bool→Hp→Prop) (b:Bool) (s':Shared):Prop:=∃ H',Inv X pins σ H' s'∧Q b H'
noncomputable def AP (X:Cx) (pins:List (Addr×Obj)) (σ:St) (Q:List V→Hp→Prop) (us:List Value) (s':Shared):Prop:=∃ vs H',Inv X pins σ H' s'∧Vals vs us∧Q vs H'
noncomputable def SP (X:Cx) (pins:List (Addr×Obj)) (D:Ends) (f:Flow) (s':Shared):Prop :=
  match f with
  | .next=>∃ σ' H',Inv X pins σ' H' s'∧D.nx σ' H'
  | .brk=>∃ σ' H',Inv X pins σ' H' s'∧D.bk σ' H'
  | .cont=>∃ σ' H',Inv X pins σ' H' s'∧D.ct σ' H'
  | .ret u=>∃ v σ' H',Inv X pins σ' H' s'∧RelV v u∧D.rt v H'

noncomputable def PE (X:Cx) (e:Expr) (t:TE):Prop :=
  ∀ (pins:List (Addr×Obj)) (s:Shared) (σ:St) (H:Hp) (Q:VK),Inv X pins σ H s→t σ H Q→wpAny (model X.prog X.w) X.A (eval e X.env) (EP X pins σ Q) X.xe s
noncomputable def PT (X:Cx) (e:Expr) (t:TT):Prop :=
  ∀ (pins:List (Addr×Obj)) (s:Shared) (σ:St) (H:Hp) (Q:Bool→Hp→Prop),Inv X pins σ H s→t σ H Q→wpAny (model X.prog X.w) X.A (isTrue e X.env (eval e X.env)) (TP X pins σ Q) X.xe s
noncomputable def PW (X:Cx) (e:Expr) (t:TT):Prop :=
  ∀ (whole:Sem Value) (pins:List (Addr×Obj)) (s:Shared) (σ:St) (H:Hp) (Q:Bool→Hp→Prop),Inv X pins σ H s→t σ H Q→wpAny (model X.prog X.w) X.A (isTrue e X.env whole) (TP X pins σ Q) X.xe s
theorem PW.pt {X:Cx} {e:Expr} {t:TT} (h:PW X e t):PT X e t:=h _
noncomputable def PA (X:Cx) (es:List Expr) (t:TA):Prop :=
  ∀ (pos:Pos) (pins:List (Addr×Obj)) (s:Shared) (σ:St) (H:Hp) (Q:List V→Hp→Prop),Inv X pins σ H s→t σ H Q→wpAny (model X.prog X.w) X.A (spliced (backTo pos (starEach es X.env))) (AP X pins σ Q) X.xe s
noncomputable def PS (X:Cx) (st:Stmt) (t:TS):Prop :=
  ∀ (pins:List (Addr×Obj)) (s:Shared) (σ:St) (H:Hp) (D:Ends),Inv X pins σ H s→t D σ H→wpAny (model X.prog X.w) X.A (exec st X.env) (SP X pins D) X.xe s
noncomputable def PSs (X:Cx) (st:List Stmt) (t:TS):Prop :=
  ∀ (pins:List (Addr×Obj)) (s:Shared) (σ:St) (H:Hp) (D:Ends),Inv X pins σ H s→t D σ H→wpAny (model X.prog X.w) X.A (execs st X.env) (SP X pins D) X.xe s
theorem thn {α:Type} {t:Sem α} {Q Q':α→Shared→Prop} {M:Model} {A:Around} {E:Value→Shared→Prop} {s:Shared} (h:wpAny M A t Q E s) (hQ:∀ a s,Q a s→Q' a s):wpAny M A t Q' E s:=wpAny_mono h hQ fun _ _ x=>x
end L2

namespace L2
open PySem PySem.Spec PyProof.Rows
section
variable {X:Cx}

noncomputable def tVar (i:Nat):TE:=fun σ H Q=>∃ v,σ[i]?=some (some v)∧Q v H
noncomputable def tC (v:V):TE:=fun _ H Q=>Q v H
theorem pe_var {i:Nat} {x:Str} {pos:Pos} (hN:X.N[i]?=some x) (hv:Vis X.env.scope x) (hd:(x==("__debug__":Str))=false:=by decide) (hcd:(x==("__classdict__":Str))=false:=by decide):PE X (.Name x pos) (tVar i):=by
  intro pins s σ H Q I h
  refine xq fun _ kq=>?_
  refine x1_2 (h) fun v e h => ?_
  refine x1_2 (I.loc) fun m hn hl => ?_
  refine x1_2 (hl i x v hN e hv) fun u r l => ?_
  apply kq
  have fin:EP X pins σ Q u s:=⟨v,H,I,r,h⟩
  rcases l with ⟨hk,hm⟩ | ⟨hk,c,hc,hcell⟩
  · exact wpAny_Name (wpAny_loadName_local I.ok.kind hk hn hm fin) hd
  · rcases hk with hk | hk
    · exact wpAny_Name (wpAny_loadName_cell I.ok.kind hk hc hcell fin) hd
    · exact wpAny_Name (wpAny_loadName_free I.ok.kind hk hc hcell fin hcd) hd
theorem pe_int {i j pos}:PE X (.Constant (.int i) j pos) (tC (.int i)):=fun _ _ _ H _ I h=>wpAny_Constant_int ⟨.int i,H,I.tok _,⟨_,rfl⟩,h⟩
theorem pe_bl {b j pos}:PE X (.Constant (.bool b) j pos) (tC (.bl b)):=fun _ _ _ H _ I h=>Constant_bool ⟨.bl b,H,I,rfl,h⟩
theorem pe_non {j pos}:PE X (.Constant .none j pos) (tC .non):=fun _ _ _ H _ I h=>Constant_none ⟨.non,H,I,rfl,h⟩
theorem pe_str {x j pos}:PE X (.Constant (.str x) j pos) (tC (.str x)):=fun _ _ _ H _ I h=>Calls.Constant_str ⟨.str x,H,I.tok _,⟨_,rfl⟩,h⟩

noncomputable def Gl (X:Cx) (x:Str):Prop:=X.env.kindOf x=some .globalImplicit
theorem ld_glob {E:Value→Shared→Prop} {pins:List (Addr×Obj)} {s:Shared} {σ:St} {H:Hp} {x:Str} {u:Value} {pos:Pos} {Q:Value→Shared→Prop} (I:Inv X pins σ H s) (hg:Gl X x) (hm:X.mg x=some u) (h:Q u s)
    (hd:(x==("__debug__":Str))=false:=by decide):wpAny (model X.prog X.w) X.A (eval (.Name x pos) X.env) Q E s :=
  Calls.Name_function_global I.ok.kind hg (Calls.loadGlobal_global (by rw [I.ok.glob];exact I.mod.glob.keeps I.bk) hm h) hd
theorem ld_blt {E:Value→Shared→Prop} {pins:List (Addr×Obj)} {s:Shared} {σ:St} {H:Hp} {x:Str} {u:Value} {pos:Pos} {Q:Value→Shared→Prop} (I:Inv X pins σ H s) (hg:Gl X x) (hm:X.mg x=none) (hv:bootBuiltins x=some u) (h:Q u s)
    (hn:x ≠ "__name__":=by decide) (hd:(x==("__debug__":Str))=false:=by decide):wpAny (model X.prog X.w) X.A (eval (.Name x pos) X.env) Q E s:=by
  refine x1_2 (I.mod.blt) fun mb h1 h2 => ?_
  exact Calls.Name_function_global I.ok.kind hg (Calls.loadGlobal_builtin (by rw [I.ok.glob];exact I.mod.glob.keeps I.bk) hm (by rw [I.ok.blt];exact h1.keeps I.bk) ((h2 x hn).trans hv) h) hd
theorem pe_bltn {x:Str} {v:V} {u:Value} {pos:Pos} (hg:Gl X x) (hm:X.mg x=none) (hv:bootBuiltins x=some u) (r:RelV v u) (hn:x ≠ "__name__":=by decide) (hd:(x==("__debug__":Str))=false:=by decide):PE X (.Name x pos) (tC v) :=
  fun _ _ _ H _ I h=>ld_blt I hg hm hv ⟨v,H,I,r,h⟩ hn hd

noncomputable def t2I (ta tb:TE) (k:Int→Int→Hp→Prop):St→Hp→Prop:=fun σ H=>ta σ H fun x H1=>tb σ H1 fun y H2=>∃ i j,x = .int i∧y = .int j∧k i j H2
noncomputable def tAdd (ta tb:TE):TE:=fun σ H Q=>t2I ta tb (fun i j H2=>Q (.int (i + j)) H2) σ H
noncomputable def tSub (ta tb:TE):TE:=fun σ H Q=>t2I ta tb (fun i j H2=>Q (.int (i - j)) H2) σ H
noncomputable def tMul (ta tb:TE):TE:=fun σ H Q=>t2I ta tb (fun i j H2=>(-(2 ^ 64) < i∧i < 2 ^ 64)∧Q (.int (i * j)) H2) σ H
variable {a b:Expr} {ta tb:TE} {pos:Pos}
noncomputable def PC (X:Cx) (op:CmpOp) (a b:Expr) (t:TE):Prop :=
  ∀ (pins:List (Addr×Obj)) (s:Shared) (σ:St) (H:Hp) (Q:VK),Inv X pins σ H s→t σ H Q →
    wpAny (model X.prog X.w) X.A (eval a X.env) (fun v s₁=>wpAny (model X.prog X.w) X.A (eval b X.env) (fun u s₂=>wpAny (model X.prog X.w) X.A (compareOp op v u) (EP X pins σ Q) X.xe s₂) X.xe s₁) X.xe s
noncomputable def tCmp (p:Int→Int→Bool) (ta tb:TE):TE:=fun σ H Q=>t2I ta tb (fun i j H2=>Q (.bl (p i j)) H2) σ H
noncomputable abbrev tLt:TE→TE→TE:=tCmp fun i j=>decide (i < j)
noncomputable abbrev tLe:TE→TE→TE:=tCmp fun i j=>decide (i≤j)
noncomputable abbrev tGt:TE→TE→TE:=tCmp fun i j=>decide (j < i)
noncomputable abbrev tGe:TE→TE→TE:=tCmp fun i j=>decide (j≤i)
noncomputable abbrev tEqI:TE→TE→TE:=tCmp fun i j=>decide (i=j)
noncomputable abbrev tNeI:TE→TE→TE:=tCmp fun i j => !decide (i=j)
noncomputable def tIsN (ta:TE):TE:=fun σ H Q=>ta σ H fun x H1=>Q (.bl (decide (x = .non))) H1
noncomputable def tNotN (ta:TE):TE:=fun σ H Q=>ta σ H fun x H1=>Q (.bl (!decide (x = .non))) H1
noncomputable def tB (t:TE):TT:=fun σ H Q=>t σ H fun x H1=>∃ c,x = .bl c∧Q c H1
variable {tA tB':TT} {rest:List Expr}
noncomputable def tAnd (t u:TT):TT:=fun σ H Q=>t σ H fun c H1=>if c=true then u σ H1 Q else Q false H1
noncomputable def tOr (t u:TT):TT:=fun σ H Q=>t σ H fun c H1=>if c=true then Q true H1 else u σ H1 Q
noncomputable def tNot (t:TT):TT:=fun σ H Q=>t σ H fun c H1=>Q (!c) H1
theorem pw_and1 (ha:PT X a tA):PW X (.BoolOp .And [a] pos) tA:=by
  intro wh pins s σ H Q I h
  refine isTrue_and (thn (ha pins s σ H Q I h) fun c s1 e => ?_)
  cases c with
  | true=>exact isTrue_and_nil e
  | false=>exact e
theorem pw_or1 (ha:PT X a tA):PW X (.BoolOp .Or [a] pos) tA:=by
  intro wh pins s σ H Q I h
  refine isTrue_or (thn (ha pins s σ H Q I h) fun c s1 e => ?_)
  cases c with
  | false=>exact isTrue_or_nil e
  | true=>exact e
theorem pw_and (ha:PT X a tA) (hb:PW X (.BoolOp .And (b :: rest) pos) tB'):PW X (.BoolOp .And (a :: b :: rest) pos) (tAnd tA tB'):=by
  intro wh pins s σ H Q I h
  refine isTrue_and (thn (ha pins s σ H _ I h) fun c s1 hq9=>x1_2 hq9 fun H1 I1 q1 => ?_)
  cases c with
  | true=>exact hb wh pins s1 σ H1 Q I1 q1
  | false=>exact ⟨H1,I1,q1⟩
theorem pw_or (ha:PT X a tA) (hb:PW X (.BoolOp .Or (b :: rest) pos) tB'):PW X (.BoolOp .Or (a :: b :: rest) pos) (tOr tA tB'):=by
  intro wh pins s σ H Q I h
  refine isTrue_or (thn (ha pins s σ H _ I h) fun c s1 hq9=>x1_2 hq9 fun H1 I1 q1 => ?_)
  cases c with
  | true=>exact ⟨H1,I1,q1⟩
  | false=>exact hb wh pins s1 σ H1 Q I1 q1
theorem pt_not (ha:PT X a tA):PT X (.UnaryOp .Not a pos) (tNot tA):=by
  intro pins s σ H Q I h
  exact isTrue_not (ha pins s σ H (fun c H1=>Q (!c) H1) I h)
noncomputable def tAndV (ta tb:TE):TE:=fun σ H Q=>ta σ H fun x H1=>∃ c,x = .bl c∧if c=true then tb σ H1 Q else Q (.bl false) H1
noncomputable def tOrV (ta tb:TE):TE:=fun σ H Q=>ta σ H fun x H1=>∃ c,x = .bl c∧if c=true then Q (.bl true) H1 else tb σ H1 Q
noncomputable def tNotV (ta:TE):TE:=fun σ H Q=>ta σ H fun x H1=>∃ c,x = .bl c∧Q (.bl (!c)) H1
noncomputable def tIf (t:TT) (ta tb:TE):TE:=fun σ H Q=>t σ H fun c H1=>if c=true then ta σ H1 Q else tb σ H1 Q
theorem pe_ifExp {c:Expr} (hc:PT X c tA) (ha:PE X a ta) (hb:PE X b tb):PE X (.IfExp c a b pos) (tIf tA ta tb):=by
  intro pins s σ H Q I h
  refine wpAny_IfExp (thn (hc pins s σ H _ I h) fun d s1 hq9=>x1_2 hq9 fun H1 I1 q1 => ?_)
  cases d with
  | true=>exact ha pins s1 σ H1 Q I1 q1
  | false=>exact hb pins s1 σ H1 Q I1 q1
end
end L2

namespace L2
open PySem PySem.Spec PyProof.Rows

noncomputable def SqL (K:PySem.W.Frag) (H:Hp) (a:Addr) (xs:List V):Prop :=
  Rd H a (.lst xs) ∨
    ∃ (o:Obj) (its:Array Value) (n:Nat),K.lookup a=some o∧o.cls = .type "list"∧o.dict=none∧o.data = .seq its n∧its.size≤sizeLine∧Vals xs its.toList
noncomputable def SqT (K:PySem.W.Frag) (H:Hp) (a:Addr) (xs:List V):Prop :=
  Rd H a (.tup xs) ∨
    ∃ (o:Obj) (its:Array Value) (n:Nat),K.lookup a=some o∧o.cls = .type "tuple"∧o.data = .seq its n∧its.size≤sizeLine∧Vals xs its.toList
noncomputable def absV:Value→Option V
  | .none=>some .non
  | .bool b=>some (.bl b)
  | .int i _=>some (.int i)
  | .str x _=>some (.str x)
  | .bytes b _=>some (.byt b)
  | .float b _=>some (.flt b)
  | .ref a=>some (.ref a)
  | .type n=>some (.ty n)
  | _=>none
theorem RelV.abs {x:V} {u:Value} (r:RelV x u):absV u=some x:=by
  cases x with
  | non=>cases r;rfl
  | bl _=>cases r;rfl
  | int _=>obtain ⟨t,rfl⟩:=r;rfl
  | str _=>obtain ⟨t,rfl⟩:=r;rfl
  | byt _=>obtain ⟨t,rfl⟩:=r;rfl
  | flt _=>obtain ⟨t,rfl⟩:=r;rfl
  | ref _=>cases r;rfl
  | ty _=>cases r;rfl
theorem RelV.inj {x y:V} {u:Value} (r:RelV x u) (q:RelV y u):x=y:=Option.some.inj (r.abs.symm.trans q.abs)
theorem Vals.inj:∀ {xs ys:List V} {us:List Value},Vals xs us→Vals ys us→xs=ys
  | _,_,_,.nil,.nil=>rfl
  | _,_,_,.cons r t,.cons r' t'=>by rw [r.inj r',Vals.inj t t']
section
variable {X:Cx} {pins:List (Addr×Obj)} {σ:St} {H:Hp} {s:Shared} {a:Addr} {xs ys:List V}
theorem SqL.of {K:PySem.W.Frag} (h:H a=some (.lst xs)):SqL K H a xs := .inl (.inl h)
theorem SqT.of {K:PySem.W.Frag} (h:H a=some (.tup xs)):SqT K H a xs := .inl (.inl h)
theorem Inv.list (I:Inv X pins σ H s) (h:SqL X.K H a xs):∃ its:List Value,Vals xs its∧PlainL s.heap a its.toArray∧xs.length≤sizeLine:=by
  rcases h with h | ⟨o,its,n,hk,hc,hd,hs,hz,r⟩
  · refine xq fun _ kq=>?_
    obtain ⟨z,its,n,r,e⟩:=h.ok I.hok
    apply kq
    exact ⟨its,r,⟨_,n,e,rfl,rfl,rfl⟩,z⟩
  · refine ⟨its.toList,r,⟨o,n,I.kIn a o hk,hc,hd,by simpa using hs⟩,?_⟩
    have e:=r.length
    simp only [Array.length_toList] at e
    omega
theorem Inv.tuple (I:Inv X pins σ H s) (h:SqT X.K H a xs):∃ its:List Value,Vals xs its∧IsTup s.heap a its.toArray∧xs.length≤sizeLine:=by
  rcases h with h | ⟨o,its,n,hk,hc,hs,hz,r⟩
  · refine xq fun _ kq=>?_
    obtain ⟨z,its,r,p⟩:=h.ok I.hok
    apply kq
    exact ⟨its,r,p,z⟩
  · refine ⟨its.toList,r,⟨o,I.kIn a o hk,hc,n,by simpa using hs⟩,?_⟩
    have e:=r.length
    simp only [Array.length_toList] at e
    omega
theorem Inv.list_inj (I:Inv X pins σ H s) (h:SqL X.K H a xs) (h':SqL X.K H a ys):xs=ys:=by
  refine xq fun _ kq=>?_
  refine x1_3 (I.list h) fun its r zq1 _ => ?_
  obtain ⟨o,n,e,_,_,d⟩:=zq1
  refine x1_3 (I.list h') fun its' r' zq1 _ => ?_
  obtain ⟨o',n',e',_,_,d'⟩:=zq1
  apply kq
  rw [e] at e';cases e'
  rw [d] at d'
  injection d' with d1 _
  have:its=its':=by simpa using congrArg Array.toList d1
  subst this
  exact r.inj r'
theorem Inv.tuple_inj (I:Inv X pins σ H s) (h:SqT X.K H a xs) (h':SqT X.K H a ys):xs=ys:=by
  refine xq fun _ kq=>?_
  refine x1_3 (I.tuple h) fun its r zq1 _ => ?_
  obtain ⟨o,e,_,n,d⟩:=zq1
  refine x1_3 (I.tuple h') fun its' r' zq1 _ => ?_
  obtain ⟨o',e',_,n',d'⟩:=zq1
  apply kq
  rw [e] at e';cases e'
  rw [d] at d'
  injection d' with d1 _
  have:its=its':=by simpa using congrArg Array.toList d1
  subst this
  exact r.inj r'
end

noncomputable abbrev Cx.wish (X:Cx) (E:Value→Shared→Prop):Cx:={ X with xe:=E }
noncomputable abbrev Cx.nox (X:Cx):Cx:=X.wish fun _ _=>False
theorem Cx.Ok.wish {X:Cx} (ok:X.Ok) (E:Value→Shared→Prop):(X.wish E).Ok :=
  ⟨ok.mod,ok.kind,ok.glob,ok.blt,ok.above,ok.inj,ok.has,ok.cab,ok.hd,ok.frames,ok.stk,ok.exf,ok.bs,ok.bsz,ok.noex,ok.exfs,ok.funs,ok.frf⟩
theorem Cx.Ok.unwish {X:Cx} {E:Value→Shared→Prop} (ok:(X.wish E).Ok):X.Ok :=
  ⟨ok.mod,ok.kind,ok.glob,ok.blt,ok.above,ok.inj,ok.has,ok.cab,ok.hd,ok.frames,ok.stk,ok.exf,ok.bs,ok.bsz,ok.noex,ok.exfs,ok.funs,ok.frf⟩
section
variable {X:Cx} {pins:List (Addr×Obj)} {σ:St} {H:Hp} {s:Shared} {E:Value→Shared→Prop}
theorem Inv.wish (I:Inv X pins σ H s) (E:Value→Shared→Prop):Inv (X.wish E) pins σ H s:=⟨I.ok.wish E,I.os,I.bare,I.base,I.loc,I.cell,I.free,I.freeC,I.pin,I.hok,I.len⟩
theorem Inv.unwish (I:Inv (X.wish E) pins σ H s):Inv X pins σ H s:=⟨I.ok.unwish,I.os,I.bare,I.base,I.loc,I.cell,I.free,I.freeC,I.pin,I.hok,I.len⟩
theorem SP.unwish {D:Ends} {f:Flow} {s':Shared} (h:SP (X.wish E) pins D f s'):SP X pins D f s':=by
  cases f with
  | next=>obtain ⟨σ',H',I,q⟩:=h;exact ⟨σ',H',I.unwish,q⟩
  | brk=>obtain ⟨σ',H',I,q⟩:=h;exact ⟨σ',H',I.unwish,q⟩
  | cont=>obtain ⟨σ',H',I,q⟩:=h;exact ⟨σ',H',I.unwish,q⟩
  | ret u=>obtain ⟨v,σ',H',I,r,q⟩:=h;exact ⟨v,σ',H',I.unwish,r,q⟩
theorem PE.nox {e:Expr} {t:TE} (h:PE X.nox e t):PE X e t:=fun pins s σ H Q I hw =>
  wpAny_mono (h pins s σ H Q (I.wish _) hw) (fun _ _ hq9=>x2_3 hq9 fun v H' I' r q=>⟨v,H',I'.unwish,r,q⟩) fun _ _ z=>False.elim z
theorem PT.nox {e:Expr} {t:TT} (h:PT X.nox e t):PT X e t:=fun pins s σ H Q I hw =>
  wpAny_mono (h pins s σ H Q (I.wish _) hw) (fun _ _ hq9=>x1_2 hq9 fun H' I' q=>⟨H',I'.unwish,q⟩) fun _ _ z=>False.elim z
theorem PSs.nox {st:List Stmt} {t:TS} (h:PSs X.nox st t):PSs X st t:=fun pins s σ H D I hw =>
  wpAny_mono (h pins s σ H D (I.wish _) hw) (fun _ _ q=>q.unwish) fun _ _ z=>False.elim z
end

section
variable {X:Cx} {st:Stmt} {rest:List Stmt} {t u:TS} {e:Expr} {te:TE} {pos:Pos}
noncomputable def tNext:TS:=fun D σ H=>D.nx σ H
noncomputable def tSeq (t u:TS):TS:=fun D σ H=>t { D with nx:=u D } σ H
theorem pss_nil:PSs X [] tNext:=fun _ _ σ H _ I h=>wpAny_execs_nil ⟨σ,H,I,h⟩
theorem pss_cons (h1:PS X st t) (h2:PSs X rest u):PSs X (st :: rest) (tSeq t u):=by
  intro pins s σ H D I h
  refine wpAny_execs_cons (thn (h1 pins s σ H { D with nx:=u D } I h) fun f s1 q => ?_)
  cases f with
  | next =>
    refine xq fun _ kq=>?_
    refine x2_2 (q) fun σ' H' I' q => ?_
    apply kq
    exact h2 pins s1 σ' H' D I' q
  | ret v=>exact q
  | brk=>exact q
  | cont=>exact q
theorem pss_one (h1:PS X st t):PSs X [st] t:=by
  intro pins s σ H D I h
  refine wpAny_execs_cons (thn (h1 pins s σ H D I h) fun f s1 q => ?_)
  cases f with
  | next=>exact wpAny_execs_nil q
  | ret v=>exact q
  | brk=>exact q
  | cont=>exact q
noncomputable def tBreak:TS:=fun D σ H=>D.bk σ H
noncomputable def tCont:TS:=fun D σ H=>D.ct σ H
theorem ps_break:PS X (.Break pos) tBreak:=fun _ _ σ H _ I h=>wpAny_Break ⟨σ,H,I,h⟩
theorem Inv.quiet {pins:List (Addr×Obj)} {σ:St} {H:Hp} {s:Shared} (I:Inv X pins σ H s):interactive X.env=false:=by simp [interactive,I.ok.kind]
noncomputable def tDrop (te:TE):TS:=fun D σ H=>te σ H fun _ H1=>D.nx σ H1
theorem ps_expr (he:PE X e te) (hs:swapsWith e none pos.line X.env=pure false:=by rfl):PS X (.Expr e pos) (tDrop te):=by
  intro pins s σ H D I h
  exact wpAny_Expr_any (thn (he pins s σ H _ I h) fun v s1 hq9=>x2_3 hq9 fun x H1 I1 r1 q1=>⟨σ,H1,I1,q1⟩) I.quiet hs
noncomputable def tRet (te:TE):TS:=fun D σ H=>te σ H D.rt
theorem ps_ret (he:PE X e te):PS X (.Return (some e) pos) (tRet te):=by
  intro pins s σ H D I h
  exact wpAny_Return_some (thn (he pins s σ H _ I h) fun v s1 hq9=>x2_3 hq9 fun x H1 I1 r1 q1=>⟨x,σ,H1,I1,r1,q1⟩)
noncomputable def tRetN:TS:=fun D _ H=>D.rt .non H
noncomputable def tIfS (c:TT) (t u:TS):TS:=fun D σ H=>c σ H fun b H1=>if b=true then t D σ H1 else u D σ H1
theorem ps_if {c:Expr} {a b:List Stmt} {tc:TT} (hc:PT X c tc) (ha:PSs X a t) (hb:PSs X b u):PS X (.If c a b pos) (tIfS tc t u):=by
  intro pins s σ H D I h
  refine wpAny_If (thn (hc pins s σ H _ I h) fun d s1 hq9=>x1_2 hq9 fun H1 I1 q1 => ?_)
  cases d with
  | true=>exact ha pins s1 σ H1 D I1 q1
  | false=>exact hb pins s1 σ H1 D I1 q1
noncomputable def tNever:TS:=fun _ _ _=>False
theorem ps_never:PS X st tNever:=fun _ _ _ _ _ _ h=>h.elim
end

noncomputable abbrev TG:=V→St→Hp→(St→Hp→Prop)→Prop
noncomputable abbrev TGs:=List V→St→Hp→(St→Hp→Prop)→Prop
noncomputable def PG (X:Cx) (target:Expr) (t:TG):Prop :=
  ∀ (pins:List (Addr×Obj)) (s:Shared) (σ:St) (H:Hp) (v:V) (u:Value) (Q:St→Hp→Prop),Inv X pins σ H s→RelV v u→t v σ H Q →
    wpAny (model X.prog X.w) X.A (assign target X.env u) (fun _ s'=>∃ σ' H',Inv X pins σ' H' s'∧Q σ' H') X.xe s
noncomputable def PGs (X:Cx) (ts:List Expr) (t:TGs):Prop :=
  ∀ (pins:List (Addr×Obj)) (s:Shared) (σ:St) (H:Hp) (vs:List V) (us:List Value) (Q:St→Hp→Prop),Inv X pins σ H s→Vals vs us→t vs σ H Q →
    wpAny (model X.prog X.w) X.A (assignInOrder ((assignEach ts X.env).map (·.2)) us) (fun _ s'=>∃ σ' H',Inv X pins σ' H' s'∧Q σ' H') X.xe s
noncomputable abbrev TSet:=V→V→V→Hp→(Hp→Prop)→Prop
noncomputable def PSet (X:Cx) (t:TSet):Prop :=
  ∀ (pins:List (Addr×Obj)) (s:Shared) (σ:St) (H:Hp) (o i v:V) (ov iv u:Value) (Q:Hp→Prop),Inv X pins σ H s→RelV o ov→RelV i iv→RelV v u→t o i v H Q →
    wpAny (model X.prog X.w) X.A (setItem ov iv u) (fun _ s'=>∃ H',Inv X pins σ H' s'∧Q H') X.xe s
noncomputable abbrev TIp:=V→V→Hp→VK→Prop
noncomputable def PIp (X:Cx) (op:Operator) (t:TIp):Prop :=
  ∀ (pins:List (Addr×Obj)) (s:Shared) (σ:St) (H:Hp) (x y:V) (v u:Value) (Q:VK),Inv X pins σ H s→RelV x v→RelV y u→t x y H Q →
    wpAny (model X.prog X.w) X.A (inplaceOp op v u) (EP X pins σ Q) X.xe s
section
variable {X:Cx} {pos:Pos}
noncomputable def gName (i:Nat):TG:=fun v σ H Q=>Q (σ.set i (some v)) H
theorem pg_name {i:Nat} {x:Str} (hN:X.N.Nodup) (hi:X.N[i]?=some x) (hx:Loc X.env.scope x) (hf:X.fn x=true∨X.env.scope.names.lookup x=some .local:=by first | exact .inl rfl | exact .inr rfl | assumption):PG X (.Name x pos) (gName i):=by
  intro pins s σ H v u Q I r h
  exact wpAny_assign_Name (store_ok I hN hi hx r (fun s' I'=>⟨_,H,I',h⟩) hf)
noncomputable def gNil:TGs:=fun vs σ H Q=>vs=[]∧Q σ H
noncomputable def gCons (t:TG) (u:TGs):TGs:=fun vs σ H Q=>∃ v r,vs=v :: r∧t v σ H fun σ' H'=>u r σ' H' Q
theorem pgs_nil:PGs X [] gNil:=by
  intro pins s σ H vs us Q I r h
  obtain ⟨e,h⟩:=h
  subst e
  cases r
  exact assignInOrder_nil ⟨σ,H,I,h⟩
theorem pgs_cons {e:Expr} {es:List Expr} {t:TG} {u:TGs} (h1:PG X e t) (h2:PGs X es u)
    (hs:(assignEach (e :: es) X.env).map (·.2)=assign e X.env :: (assignEach es X.env).map (·.2):=by rfl):PGs X (e :: es) (gCons t u):=by
  intro pins s σ H vs us Q I r h
  refine xq fun _ kq=>?_
  obtain ⟨v,vr,e1,h⟩:=h
  apply kq
  subst e1
  cases r with
  | cons r rr =>
    rw [hs]
    refine assignInOrder_cons (thn (h1 pins s σ H _ _ _ I r h) fun _ s1 hq9=>x2_2 hq9 fun σ1 H1 I1 q1 => ?_)
    exact h2 pins s1 σ1 H1 _ _ Q I1 rr q1
noncomputable def gTup (K:PySem.W.Frag) (n:Nat) (t:TGs):TG:=fun v σ H Q=>∃ a xs,v = .ref a∧SqT K H a xs∧xs.length=n∧t xs σ H Q
theorem pg_tup {es:List Expr} {k:Nat} {t:TGs} {n:Nat} (hc:X.calm=true) (h:PGs X es t)
    (hn:(assignEach es X.env).length=n:=by rfl) (hst:(assignEach es X.env).findIdx? (·.1)=none:=by rfl):PG X (.Tuple es k pos) (gTup X.K n t):=by
  intro pins s σ H v u Q I r hw
  refine xq fun _ kq=>?_
  obtain ⟨a,xs,e1,hq,hl,hw⟩:=hw
  apply kq
  subst e1
  cases r
  refine xq fun _ kq=>?_
  obtain ⟨its,rv,ht,hz⟩:=I.tuple hq
  apply kq
  refine assign_Tuple_tuple (I.ok.hd hc) ht (by simp [hn,← hl,rv.length]) hst fun h' hx => ?_
  have I1:Inv X pins σ H { s with heap:=h' }:=I.kept (t':=s.toks) fun b o e=>hx b o (Nat.ne_of_lt (Heap.lt_size e)) e
  exact h pins _ σ H xs _ Q I1 (by simpa using rv) hw
noncomputable def gSub (to ti:TE) (t:TSet):TG:=fun v σ H Q=>to σ H fun o H1=>ti σ H1 fun i H2=>t o i v H2 fun H3=>Q σ H3
theorem pg_sub {o i:Expr} {to ti:TE} {t:TSet} (ho:PE X o to) (hi:PE X i ti) (hs:PSet X t)
    (ha:∀ v,assign (.Subscript o i pos) X.env v=(do
      let ov ← holding [v] (eval o X.env)
      let iv ← holding [v,ov] (eval i X.env)
      standAt pos
      holding [v,ov,iv] (setItem ov iv v)
      release [v,ov,iv] []):=by intro _;rfl):PG X (.Subscript o i pos) (gSub to ti t):=by
  intro pins s σ H v u Q I r h
  rw [ha]
  refine wpAny_bind (wpAny_holding (thn (ho pins s σ H _ I h) fun ov s1 hq9=>x2_3 hq9 fun x H1 I1 r1 q1 => ?_))
  refine wpAny_bind (wpAny_holding (thn (hi pins s1 σ H1 _ I1 q1) fun iv s2 hq9=>x2_3 hq9 fun y H2 I2 r2 q2 => ?_))
  refine wpAny_bind (wpAny_standAt (wpAny_bind (wpAny_holding (thn (hs pins s2 σ H2 x y v ov iv u _ I2 r1 r2 r q2) fun _ s3 hq9=>x1_2 hq9 fun H3 I3 q3 => ?_))))
  exact wpAny_release ⟨σ,H3,I3,q3⟩
noncomputable def tAsg (te:TE) (g:TG):TS:=fun D σ H=>te σ H fun x H1=>g x σ H1 D.nx
theorem ps_asg {tg e:Expr} {te:TE} {g:TG} (he:PE X e te) (hg:PG X tg g) (hs:swapsWithSole [tg] e pos.line X.env=pure false:=by rfl) (hw:swappedStores [tg] e X.env=pure none:=by rfl)
    (h1:(assignEach [tg] X.env).map (·.2)=[assign tg X.env]:=by rfl):PS X (.Assign [tg] e pos) (tAsg te g):=by
  intro pins s σ H D I h
  refine wpAny_Assign_stores (thn (he pins s σ H _ I h) fun v s1 hq9=>x2_3 hq9 fun x H1 I1 r1 q1 => ?_) hs hw
  rw [h1]
  exact thn (hg pins s1 σ H1 x v _ I1 r1 q1) fun _ s2 q=>q
theorem ps_set {i:Nat} {x:Str} {e:Expr} {te:TE} {pos':Pos} (hN:X.N.Nodup) (hi:X.N[i]?=some x) (hx:Loc X.env.scope x) (he:PE X e te) (hs:swapsWith e (some (.Name x pos')) pos.line X.env=pure false:=by rfl) (hf:X.fn x=true∨X.env.scope.names.lookup x=some .local:=by first | exact .inl rfl | exact .inr rfl | assumption) :
    PS X (.Assign [.Name x pos'] e pos) (tAsg te (gName i)):=by
  intro pins s σ H D I h
  refine wpAny_Assign_Name (thn (he pins s σ H _ I h) fun v s1 hq9=>x2_3 hq9 fun y H1 I1 r1 q1 => ?_) hs
  exact store_ok I1 hN hi hx r1 (fun s2 I2=>⟨_,H1,I2,q1⟩) hf
noncomputable def tPar (i j:Nat) (ta:TA):TS:=fun D σ H=>ta σ H fun vs H1=>∃ v w,vs=[v,w]∧D.nx ((σ.set i (some v)).set j (some w)) H1
noncomputable def tAug (i:Nat) (te:TE) (ti:TIp):TS:=fun D σ H=>∃ x,σ[i]?=some (some x)∧te σ H fun y H1=>ti x y H1 fun z H2=>D.nx (σ.set i (some z)) H2
theorem ps_aug {i:Nat} {x:Str} {e:Expr} {te:TE} {op:Operator} {ti:TIp} {pos':Pos} (hN:X.N.Nodup) (hi:X.N[i]?=some x) (hx:Loc X.env.scope x) (he:PE X e te) (ho:PIp X op ti) (hf:X.fn x=true∨X.env.scope.names.lookup x=some .local:=by first | exact .inl rfl | exact .inr rfl | assumption) :
    PS X (.AugAssign (.Name x pos') op e pos) (tAug i te ti):=by
  intro pins s σ H D I h
  refine xq fun _ kq=>?_
  refine x1_2 (h) fun v e1 h => ?_
  refine x1_2 (I.loc) fun m hn hl => ?_
  have vis:Vis X.env.scope x:=by rcases hx with k | k;exact .inl k;exact .inr (.inl k)
  refine x1_2 (hl i x v hi e1 vis) fun u r l => ?_
  apply kq
  refine wpAny_AugAssign_Name ?_
  have go:wpAny (model X.prog X.w) X.A (eval e X.env) (fun w s₂=>wpAny (model X.prog X.w) X.A (inplaceOp op u w) (fun r s₃=>wpAny (model X.prog X.w) X.A (storeName X.env x r) (fun _=>SP X pins D .next) X.xe s₃) X.xe s₂) X.xe s:=by
    refine thn (he pins s σ H _ I h) fun w s1 hq9=>x2_3 hq9 fun y H1 I1 r1 q1 => ?_
    refine thn (ho pins s1 σ H1 v y u w _ I1 r r1 q1) fun z s2 hq9=>x2_3 hq9 fun zv H2 I2 r2 q2 => ?_
    exact store_ok I2 hN hi hx r2 (fun s3 I3=>⟨_,H2,I3,q2⟩) hf
  rcases l with ⟨hk,hm⟩ | ⟨hk,c,hc,hcell⟩
  · exact wpAny_loadName_local I.ok.kind hk hn hm go
  · rcases hk with hk | hk
    · exact wpAny_loadName_cell I.ok.kind hk hc hcell go
    · rcases hx with k | k
      · have:X.env.scope.names.lookup x=some .free:=hk
        rw [k] at this;cases this
      · have:X.env.scope.names.lookup x=some .free:=hk
        rw [k] at this;cases this
noncomputable def tAugS (to ti te:TE) (tget:V→V→Hp→VK→Prop) (tip:TIp) (tset:TSet):TS:=fun D σ H=>to σ H fun o H1=>ti σ H1 fun i H2=>tget o i H2 fun x H3=>te σ H3 fun y H4=>tip x y H4 fun z H5=>tset o i z H5 fun H6=>D.nx σ H6
noncomputable def PGet (X:Cx) (t:V→V→Hp→VK→Prop):Prop :=
  ∀ (pins:List (Addr×Obj)) (s:Shared) (σ:St) (H:Hp) (o i:V) (ov iv:Value) (Q:VK),Inv X pins σ H s→RelV o ov→RelV i iv→t o i H Q →
    wpAny (model X.prog X.w) X.A (getItem ov iv) (EP X pins σ Q) X.xe s
noncomputable def ipI (f:Int→Int→Int):TIp:=fun x y H Q=>∃ i j,x = .int i∧y = .int j∧Q (.int (f i j)) H
end

section
variable {X:Cx} {pos:Pos}
noncomputable def tWhile (c:TT) (tb:TS):TS:=fun D σ H=>∃ W:Nat→St→Hp→Prop,(∃ m,W m σ H)∧∀ m σ H,W m σ H →
  c σ H fun b H1=>if b=true then ∃ N:St→Hp→Prop,(∀ σ' H',N σ' H'→∃ m',m' < m∧W m' σ' H')∧tb { D with nx:=N,ct:=N,bk:=D.nx } σ H1 else D.nx σ H1
theorem ps_while {c:Expr} {body:List Stmt} {tc:TT} {tb:TS} (hp:PassesOwn (model X.prog X.w) X.A X.env X.xe) (hc:PT X c tc) (hb:PSs X body tb):PS X (.While c body [] pos) (tWhile tc tb):=by
  intro pins s σ H D I h
  refine xq fun _ kq=>?_
  refine x1_2 (h) fun W zq1 turn => ?_
  obtain ⟨m0,w0⟩:=zq1
  apply kq
  refine wpAny_While (codeAny_whileLoop (fun n s'=>∃ σ' H',Inv X pins σ' H' s'∧W n σ' H') ?_ m0 ⟨σ,H,I,w0⟩)
  rintro n s1 ⟨σ1,H1,I1,w1⟩
  refine wpAny_passesOwn hp (thn (hc pins s1 σ1 H1 _ I1 (turn n σ1 H1 w1)) fun b s2 hq9=>x1_2 hq9 fun H2 I2 q2 => ?_)
  cases b with
  | true =>
    refine x1_2 (q2) fun N hN q2 => ?_
    rw [if_pos rfl]
    refine wpAny_passesOwn hp (thn (hb pins s2 σ1 H2 _ I2 q2) fun f s3 q3 => ?_)
    cases f with
    | next =>
      refine xq fun _ kq=>?_
      refine x2_2 (q3) fun σ3 H3 I3 n3 => ?_
      refine x1_2 (hN σ3 H3 n3) fun m' hm w3 => ?_
      apply kq
      exact ⟨m',hm,σ3,H3,I3,w3⟩
    | cont =>
      refine xq fun _ kq=>?_
      refine x2_2 (q3) fun σ3 H3 I3 n3 => ?_
      refine x1_2 (hN σ3 H3 n3) fun m' hm w3 => ?_
      apply kq
      exact ⟨m',hm,σ3,H3,I3,w3⟩
    | brk=>exact q3
    | ret v=>exact q3
  | false =>
    rw [if_neg Bool.false_ne_true]
    exact wpAny_execs_nil ⟨σ1,H2,I2,q2⟩
end

structure It where
  go:Nat→Hp→Prop
  yld:Nat→Hp→V→Hp→Prop
  stop:Nat→Hp→Prop
noncomputable def FpOk (X:Cx) (pins:List (Addr×Obj)) (H:Hp) (b:Addr):Prop :=
  H b=none∧b≠X.env.locals∧b∉X.fs∧(b∈X.ex∨X.s₀.heap.objs.size≤b)∧(∀ x c,X.env.cells.lookup x=some c→c≠b)∧∀ p∈X.pn++pins,p.1≠b
theorem Inv.fpOk {X:Cx} {pins:List (Addr×Obj)} {σ:St} {H H':Hp} {s:Shared} {b:Addr} (I:Inv X pins σ H s) (hb:s.heap.objs.size≤b) (hn:H' b=none):FpOk X pins H' b:=by
  refine ⟨hn,Nat.ne_of_gt (Nat.lt_of_lt_of_le I.lt hb),I.nofs hb,.inr (Nat.le_trans I.sz hb),fun x c e z => ?_,fun p hp z => ?_⟩
  · obtain ⟨v,q⟩:=I.cell x c e
    exact absurd (Nat.lt_of_lt_of_le q.lt (by rw [z];exact hb)) (Nat.lt_irrefl _)
  · exact absurd (Nat.lt_of_lt_of_le (Heap.lt_size (I.pin p hp).1) (by rw [z];exact hb)) (Nat.lt_irrefl _)
structure Turn (P:Program) (w:World) (K:PySem.W.Frag) (tg:Expr) (J:It) (fp:List Addr) (it:Addr) (tn:Nat→Heap→Prop):Prop where
  mem:it∈fp
  obj:∀ i h,tn i h→∀ b∈fp,∃ o,h.get? b=some o∧∀ v,o.data ≠ .cell v
  keep:∀ i h h',tn i h→(∀ b∈fp,∀ o,h.get? b=some o→h'.get? b=some o)→tn i h'
  item:∀ (X:Cx),X.prog=P→X.w=w→X.K=K→X.calm=true→∀ (i:Nat) (pins:List (Addr×Obj)) (s:Shared) (σ:St) (H:Hp) (E:Value→Shared→Prop),Inv X pins σ H s→(∀ b∈fp,FpOk X pins H b)→tn i s.heap→J.go i H →
    wpAny (model P w) X.A (pyNext (.ref it)) (fun r s1=>∃ u,r=some u ∧
      wpAny (model P w) X.A (letOwnedTupleGo tg (.ref it) u) (fun _ s2=>∃ x H',Inv X pins σ H' s2∧RelV x u∧J.yld i H x H'∧tn (i + 1) s2.heap∧∀ b∈fp,H' b=none) E s1) E s
  done:∀ (X:Cx),X.prog=P→X.w=w→X.K=K→X.calm=true→∀ (i:Nat) (pins:List (Addr×Obj)) (s:Shared) (σ:St) (H:Hp) (E:Value→Shared→Prop),Inv X pins σ H s→(∀ b∈fp,FpOk X pins H b)→tn i s.heap→J.stop i H →
    wpAny (model P w) X.A (pyNext (.ref it)) (fun r s1=>r=none∧Inv X pins σ H s1) E s
  self:∀ (A:Around) (i:Nat) (s:Shared) (Q:Value→Shared→Prop) (E:Value→Shared→Prop),tn i s.heap→Q (.ref it) s→wpAny (model P w) A (pyIter (.ref it)) Q E s
noncomputable abbrev TI:=St→Hp→(It→Hp→Prop)→Prop
noncomputable def PIE (X:Cx) (pins:List (Addr×Obj)) (σ:St) (tg:Expr) (R:It→Hp→Prop) (itv:Value) (s2:Shared):Prop :=
  ∃ (it:Addr) (fp:List Addr) (tn:Nat→Heap→Prop) (J:It) (H':Hp),itv = .ref it∧Inv X pins σ H' s2∧Turn X.prog X.w X.K tg J fp it tn∧tn 0 s2.heap∧(∀ b∈fp,FpOk X pins H' b)∧R J H'
noncomputable def PI (X:Cx) (tg iter:Expr) (wi:TI):Prop :=
  ∀ (pins:List (Addr×Obj)) (s:Shared) (σ:St) (H:Hp) (R:It→Hp→Prop),Inv X pins σ H s→wi σ H R →
    wpAny (model X.prog X.w) X.A (eval iter X.env) (fun v s1=>wpAny (model X.prog X.w) X.A (pyIter v) (PIE X pins σ tg R) X.xe s1) X.xe s

theorem go_of {M:Model} {A:Around} {E:Value→Shared→Prop} {s:Shared} {tg:Expr} {it:Addr} {u:Value} {o:Obj} {n:String} {vs:Array Value} {Q:Unit→Shared→Prop} (ho:s.heap.get? it=some o) (hc:o.cls = .type n) (hd:o.data = .fields vs)
    (hn:["enumerate","zip","dict_itemiterator","dict_reverseitemiterator","odict_iterator","itertools.zip_longest","itertools.pairwise"].contains n=false) (hQ:Q () s):wpAny M A (letOwnedTupleGo tg (.ref it) u) Q E s:=by
  unfold letOwnedTupleGo
  cases tg <;> first
    | exact wpAny_pure hQ
    | (cases u <;> first
        | exact wpAny_pure hQ
        | (refine wpAny_bind (wpAny_load ho ?_)
           rw [hc,hd]
           show wpAny M A (if (["enumerate","zip","dict_itemiterator","dict_reverseitemiterator","odict_iterator","itertools.zip_longest","itertools.pairwise"].contains n&&vs[0]?==some (rawInt _))=true then _ else _) Q E s
           rw [if_neg (by intro h;rw [hn,Bool.false_and] at h;cases h)]
           exact wpAny_pure hQ))

noncomputable def Itl (K:PySem.W.Frag) (a:Addr):It :=
  ⟨fun i H=>∃ xs x,SqL K H a xs∧xs[i]?=some x,fun i H x H'=>H'=H∧∀ xs,SqL K H a xs→xs[i]?=some x,fun i H=>∃ xs,SqL K H a xs∧xs.length≤i⟩
noncomputable def Itt (K:PySem.W.Frag) (a:Addr):It :=
  ⟨fun i H=>∃ xs x,SqT K H a xs∧xs[i]?=some x,fun i H x H'=>H'=H∧∀ xs,SqT K H a xs→xs[i]?=some x,fun i H=>∃ xs,SqT K H a xs∧xs.length≤i⟩
noncomputable def Itr (lo:Int) (n:Nat):It:=⟨fun i _=>i < n,fun i H x H'=>H'=H∧x = .int (lo + i),fun i _=>n≤i⟩
theorem turn_list {P:Program} {w:World} {K:PySem.W.Frag} {tg:Expr} (a it:Addr):Turn P w K tg (Itl K a) [it] it (fun i h=>h.IsListIter it a i) where
  mem:=by simp
  obj:=fun i h st b hb=>by
    have e:b=it:=by simpa using hb
    subst e
    refine xq fun _ kq=>?_
    refine x1_3 (st) fun o e c d => ?_
    apply kq
    exact ⟨o,e,fun v z=>by rw [d] at z;cases z⟩
  keep:=fun i h h' st k=>st.at fun o e=>k it (by simp) o e
  item:=by
    intro X hP hw hK hc i pins s σ H E I hf st hg
    subst hP hw hK
    refine xq fun _ kq=>?_
    refine x2_2 (hg) fun xs x hq hx => ?_
    refine x1_3 (I.list hq) fun its rv p hz => ?_
    refine x1_2 (rv.get hx) fun u hu ru => ?_
    refine x0_6 (hf it (by simp)) fun f0 f1 f2 f3 f4 f5 => ?_
    apply kq
    refine wpAny_pyNext_list_item st p.isList (x:=u) (by simpa using hu) fun h' st' sb => ?_
    have I1:Inv X pins σ H { s with heap:=h' }:=I.turned (t':=s.toks) (fun b o hb e=>(sb.2 b hb).trans e) f0 f1 f3 f4 f5
    refine xq fun _ kq=>?_
    refine x1_3 (id st') fun o e c d => ?_
    apply kq
    exact ⟨u,rfl,go_of (s:={ s with heap:=h' }) e c d (by decide) ⟨x,H,I1,ru,⟨rfl,fun ys hy=>by rw [I.list_inj hy hq];exact hx⟩,st',fun b hb=>(hf b hb).1⟩⟩
  done:=by
    intro X hP hw hK hc i pins s σ H E I hf st hg
    subst hP hw hK
    refine xq fun _ kq=>?_
    refine x1_2 (hg) fun xs hq hx => ?_
    refine x1_3 (I.list hq) fun its rv p hz => ?_
    refine x0_6 (hf it (by simp)) fun f0 f1 f2 f3 f4 f5 => ?_
    apply kq
    have hl:=rv.length
    exact wpAny_pyNext_list_end (I.ok.hd hc) st p.isList (by simp;omega) fun h' eb=>⟨rfl,I.turned (t':=s.toks) (fun b o hb e=>eb b o hb e) f0 f1 f3 f4 f5⟩
  self:=fun _ _ _ _ _ st h=>wpAny_pyIter_listiter st h
theorem turn_tuple {P:Program} {w:World} {K:PySem.W.Frag} {tg:Expr} (a it:Addr):Turn P w K tg (Itt K a) [it] it (fun i h=>h.IsTupleIter it a i) where
  mem:=by simp
  obj:=fun i h st b hb=>by
    have e:b=it:=by simpa using hb
    subst e
    refine xq fun _ kq=>?_
    refine x1_3 (st) fun o e c d => ?_
    apply kq
    exact ⟨o,e,fun v z=>by rw [d] at z;cases z⟩
  keep:=fun i h h' st k=>st.at fun o e=>k it (by simp) o e
  item:=by
    intro X hP hw hK hc i pins s σ H E I hf st hg
    subst hP hw hK
    refine xq fun _ kq=>?_
    refine x2_2 (hg) fun xs x hq hx => ?_
    refine x1_3 (I.tuple hq) fun its rv p hz => ?_
    refine x1_2 (rv.get hx) fun u hu ru => ?_
    refine x0_6 (hf it (by simp)) fun f0 f1 f2 f3 f4 f5 => ?_
    apply kq
    refine wpAny_pyNext_tuple_item st (show s.heap.IsTuple a its.toArray from p) (x:=u) (by simpa using hu) fun h' st' sb => ?_
    have I1:Inv X pins σ H { s with heap:=h' }:=I.turned (t':=s.toks) (fun b o hb e=>(sb.2 b hb).trans e) f0 f1 f3 f4 f5
    refine xq fun _ kq=>?_
    refine x1_3 (id st') fun o e c d => ?_
    apply kq
    exact ⟨u,rfl,go_of (s:={ s with heap:=h' }) e c d (by decide) ⟨x,H,I1,ru,⟨rfl,fun ys hy=>by rw [I.tuple_inj hy hq];exact hx⟩,st',fun b hb=>(hf b hb).1⟩⟩
  done:=by
    intro X hP hw hK hc i pins s σ H E I hf st hg
    subst hP hw hK
    refine xq fun _ kq=>?_
    refine x1_2 (hg) fun xs hq hx => ?_
    refine x1_3 (I.tuple hq) fun its rv p hz => ?_
    refine x0_6 (hf it (by simp)) fun f0 f1 f2 f3 f4 f5 => ?_
    apply kq
    have hl:=rv.length
    exact wpAny_pyNext_tuple_end (I.ok.hd hc) st (show s.heap.IsTuple a its.toArray from p) (by simp;omega) fun h' eb=>⟨rfl,I.turned (t':=s.toks) (fun b o hb e=>eb b o hb e) f0 f1 f3 f4 f5⟩
  self:=fun _ _ _ _ _ st h=>wpAny_pyIter_tupleiter st h
theorem turn_range {P:Program} {w:World} {K:PySem.W.Frag} {tg:Expr} (it:Addr) (lo:Int) (n:Nat):Turn P w K tg (Itr lo n) [it] it (fun i h=>IsRangeIter h it (lo + (i:Nat) * 1) ((n:Int) - (i:Nat)) 1) where
  mem:=by simp
  obj:=fun i h st b hb=>by
    have e:b=it:=by simpa using hb
    subst e
    exact ⟨_,st,fun v z=>by
      have z':Data.fields _=Data.cell v:=z
      cases z'⟩
  keep:=fun i h h' st k=>k it (by simp) _ st
  item:=by
    intro X hP hw hK hc i pins s σ H E I hf st hg
    subst hP hw hK
    refine xq fun _ kq=>?_
    refine x0_6 (hf it (by simp)) fun f0 f1 f2 f3 f4 f5 => ?_
    apply kq
    have W:=Walks.range (prog:=X.prog) (w:=X.w) (I.ok.hd hc) it lo 1 n
    refine W.item i s _ _ hg st fun v h' tk hv st' kk => ?_
    obtain ⟨t,rfl⟩:=hv
    have I1:Inv X pins σ H { s with heap:=h',toks:=tk }:=I.turned (fun b o hb e=>kk b o (by simpa using hb) e) f0 f1 f3 f4 f5
    refine ⟨_,rfl,go_of (s:={ s with heap:=h',toks:=tk }) (n := "range_iterator") st' rfl rfl (by decide) ⟨.int (lo + i),H,I1,⟨t,?_⟩,⟨rfl,rfl⟩,st',fun b hb=>(hf b hb).1⟩⟩
    rw [Int.mul_one]
  done:=by
    intro X hP hw hK hc i pins s σ H E I hf st hg
    subst hP hw hK
    refine xq fun _ kq=>?_
    refine x0_6 (hf it (by simp)) fun f0 f1 f2 f3 f4 f5 => ?_
    apply kq
    exact wpAny_pyNext_range_end (I.ok.hd hc) st (by have:n≤i:=hg;omega) fun h' eb=>⟨rfl,I.turned (t':=s.toks) (fun b o hb e=>eb b o hb e) f0 f1 f3 f4 f5⟩
  self:=fun _ _ _ _ _ st h=>wpAny_pyIter_rangeiter st h
end L2

namespace L2
open PySem PySem.Spec PyProof.Rows
section
variable {X:Cx} {tg:Expr}
noncomputable def iList (K:PySem.W.Frag) (tl:TE):TI:=fun σ H R=>tl σ H fun x H1=>∃ a,x = .ref a∧(∃ xs,SqL K H1 a xs)∧R (Itl K a) H1
noncomputable def iTup (K:PySem.W.Frag) (tl:TE):TI:=fun σ H R=>tl σ H fun x H1=>∃ a,x = .ref a∧(∃ xs,SqT K H1 a xs)∧R (Itt K a) H1
theorem pi_list {l:Expr} {tl:TE} (hl:PE X l tl):PI X tg l (iList X.K tl):=by
  intro pins s σ H R I h
  refine thn (hl pins s σ H _ I h) fun v s1 hq9=>x2_3 hq9 fun x H1 I1 r1 q1 => ?_
  refine xq fun _ kq=>?_
  refine x1_3 (q1) fun a e zq1 q => ?_
  obtain ⟨xs,hq⟩:=zq1
  apply kq
  subst e
  cases r1
  refine xq fun _ kq=>?_
  refine x1_3 (I1.list hq) fun its rv p hz => ?_
  apply kq
  refine wpAny_pyIter_list p.isList ?_
  refine ⟨s1.heap.objs.size,[s1.heap.objs.size],_,_,H1,rfl,I1.kept (t':=s1.toks) fun b o e=>Heap.get?_push_of_some _ e,turn_list a _,⟨_,Heap.get?_push_size _ rfl,rfl,rfl⟩,fun b hb => ?_,q⟩
  have e:b=s1.heap.objs.size:=by simpa using hb
  subst e
  exact I1.fpOk (Nat.le_refl _) (I1.hok.fresh (Nat.le_refl _))
theorem pi_tup {l:Expr} {tl:TE} (hl:PE X l tl):PI X tg l (iTup X.K tl):=by
  intro pins s σ H R I h
  refine thn (hl pins s σ H _ I h) fun v s1 hq9=>x2_3 hq9 fun x H1 I1 r1 q1 => ?_
  refine xq fun _ kq=>?_
  refine x1_3 (q1) fun a e zq1 q => ?_
  obtain ⟨xs,hq⟩:=zq1
  apply kq
  subst e
  cases r1
  refine xq fun _ kq=>?_
  refine x1_3 (I1.tuple hq) fun its rv p hz => ?_
  apply kq
  refine wpAny_pyIter_tuple (show s1.heap.IsTuple a its.toArray from p) ?_
  refine ⟨s1.heap.objs.size,[s1.heap.objs.size],_,_,H1,rfl,I1.kept (t':=s1.toks) fun b o e=>Heap.get?_push_of_some _ e,turn_tuple a _,⟨_,Heap.get?_push_size _ rfl,rfl,rfl⟩,fun b hb => ?_,q⟩
  have e:b=s1.heap.objs.size:=by simpa using hb
  subst e
  exact I1.fpOk (Nat.le_refl _) (I1.hok.fresh (Nat.le_refl _))
theorem range_it {pins:List (Addr×Obj)} {σ:St} {H:Hp} {s:Shared} {R:It→Hp→Prop} {E:Value→Shared→Prop} {lo hi:Int} {t u v:Tok} {tk:Nat} (I:Inv X pins σ H s) (h1 : -(2 ^ 62)≤lo) (h2:lo < 2 ^ 62) (h3 : -(2 ^ 62)≤hi) (h4:hi < 2 ^ 62)
    (q:R (Itr lo (hi - lo).toNat) H):wpAny (model X.prog X.w) X.A (pyIter (.ref s.heap.objs.size)) (PIE X pins σ tg R) E { s with heap:=s.heap.push { cls := .type "range",data := .fields #[.int lo t,.int hi u,.int 1 v] },toks:=tk }:=by
  refine wpAny_pyIter_range (IsRange.new ..) (small_one h1 h2 h3 h4) ?_
  have I1:Inv X pins σ H { s with heap:=s.heap.push { cls := .type "range",data := .fields #[.int lo t,.int hi u,.int 1 v] },toks:=tk }:=I.kept fun b o e=>Heap.get?_push_of_some _ e
  refine ⟨(s.heap.push { cls := .type "range",data := .fields #[.int lo t,.int hi u,.int 1 v] }).objs.size,[(s.heap.push { cls := .type "range",data := .fields #[.int lo t,.int hi u,.int 1 v] }).objs.size],_,_,H,rfl,
    I1.kept (t':=tk) fun b o e=>Heap.get?_push_of_some _ e,turn_range _ lo (hi - lo).toNat,?_,fun b hb => ?_,q⟩
  · have e1:lo + ((0:Nat):Int) * 1=lo:=by simp
    have e2:(((hi - lo).toNat:Nat):Int) - ((0:Nat):Int)=Builtin.Range.rangeSize lo hi 1:=by rw [rangeSize_one];split <;> omega
    show IsRangeIter _ _ (lo + ((0:Nat):Int) * 1) ((((hi - lo).toNat:Nat):Int) - ((0:Nat):Int)) 1
    rw [e1,e2]
    exact Heap.get?_push_size _ rfl
  · have e:b=(s.heap.push { cls := .type "range",data := .fields #[.int lo t,.int hi u,.int 1 v] }).objs.size:=by simpa using hb
    subst e
    exact I1.fpOk (Nat.le_refl _) (I1.hok.fresh (Nat.le_refl _))
noncomputable def iRng1 (ta:TA):TI:=fun σ H R=>ta σ H fun vs H1=>∃ j:Int,vs=[.int j] ∧ -(2 ^ 62)≤j∧j < 2 ^ 62∧R (Itr 0 j.toNat) H1
noncomputable def iRng2 (ta:TA):TI:=fun σ H R=>ta σ H fun vs H1=>∃ i j:Int,vs=[.int i,.int j]∧(-(2 ^ 62)≤i∧i < 2 ^ 62 ∧ -(2 ^ 62)≤j∧j < 2 ^ 62)∧R (Itr i (j - i).toNat) H1
theorem pi_range1 {a:Expr} {ta:TA} {p pos:Pos} (hg:Gl X "range") (hm:X.mg "range"=none) (ha:PA X [a] ta) (hs:starEach [a] X.env=[(false,eval a X.env)]:=by rfl):PI X tg (.Call (.Name "range" p) [a] [] pos) (iRng1 ta):=by
  intro pins s σ H R I h
  refine Call_ (ld_blt I hg hm boot_range (PyProof.Rows.callWith_type1 (thn (ha pos pins s σ H _ I h) fun us s1 hq9=>x2_3 hq9 fun vs H1 I1 r1 q1 => ?_) hs rfl))
  refine xq fun _ kq=>?_
  obtain ⟨j,e,q1,q2,q⟩:=q1
  apply kq
  subst e
  cases r1 with
  | cons r rr =>
    cases rr
    obtain ⟨t,rfl⟩:=r
    exact call_range_1 (range_it I1 (by omega) (by omega) q1 q2 (by simpa using q))
noncomputable def tFor (wi:TI) (g:TG) (tb:TS):TS:=fun D σ H=>wi σ H fun J H1=>∃ W:Nat→Nat→St→Hp→Prop,(∃ m,W 0 m σ H1)∧∀ i m σ H,W i m σ H →
  (J.stop i H∧D.nx σ H)∨(J.go i H∧∃ N:St→Hp→Prop,(∀ σ' H',N σ' H'→∃ m',m' < m∧W (i + 1) m' σ' H')∧∀ x H',J.yld i H x H'→g x σ H' fun σ2 H2=>tb { D with nx:=N,ct:=N,bk:=D.nx } σ2 H2)
noncomputable def pinsAt (fp:List Addr) (h:Heap):List (Addr×Obj):=fp.filterMap fun b=>(h.get? b).map fun o=>(b,o)
theorem mem_pinsAt {fp:List Addr} {h:Heap} {b:Addr} {o:Obj} (hb:b∈fp) (e:h.get? b=some o):(b,o)∈pinsAt fp h:=List.mem_filterMap.mpr ⟨b,hb,by rw [e];rfl⟩
theorem of_pinsAt {fp:List Addr} {h:Heap} {p:Addr×Obj} (hp:p∈pinsAt fp h):p.1∈fp∧h.get? p.1=some p.2:=by
  refine x1_2 (List.mem_filterMap.mp hp) fun b hb e => ?_
  cases q:h.get? b with
  | none=>rw [q] at e;cases e
  | some o =>
    rw [q] at e
    have e':(b,o)=p:=Option.some.inj e
    subst e'
    exact ⟨hb,q⟩
theorem Inv.pinned {pins:List (Addr×Obj)} {σ:St} {H:Hp} {s:Shared} {fp:List Addr} (I:Inv X pins σ H s) (hf:∀ b∈fp,FpOk X pins H b) (ho:∀ b∈fp,∃ o,s.heap.get? b=some o∧∀ v,o.data ≠ .cell v):Inv X (pins++pinsAt fp s.heap) σ H s :=
  I.pins_of fun p hp=>(List.mem_append.mp hp).elim (fun z=>I.pin p (List.mem_append_right _ z)) fun z=>by
    refine xq fun _ kq=>?_
    obtain ⟨hb,e⟩:=of_pinsAt z
    refine x0_4 (hf p.1 hb) fun f0 f1 f2 _ => ?_
    refine x1_2 (ho p.1 hb) fun o e' d => ?_
    apply kq
    rw [e] at e';cases e'
    exact ⟨e,f0,f1,f2,d⟩
theorem Inv.unpinned {pins pl:List (Addr×Obj)} {σ:St} {H:Hp} {s:Shared} (I:Inv X (pins++pl) σ H s):Inv X pins σ H s:=I.pins_of fun p hp=>I.pin p (List.mem_append_right _ (List.mem_append_left _ hp))
theorem ps_for {iter:Expr} {body:List Stmt} {wi:TI} {g:TG} {tb:TS} {pos:Pos} (hp:PassesOwn (model X.prog X.w) X.A X.env X.xe) (hc:X.calm=true) (hi:PI X tg iter wi) (hg:PG X tg g) (hb:PSs X body tb)
    (hs:∀ x,foldedSetIterable iter X.env x=pure x:=by intro _;rfl):PS X (.For tg iter body [] pos) (tFor wi g tb):=by
  intro pins s σ H D I h
  refine wpAny_For (thn (hi pins s σ H _ I h) fun v s1 h1=>thn h1 fun itv s2 h2 => ?_) hs
  refine xq fun _ kq=>?_
  obtain ⟨it,fp,tn,J,H2,e,I2,T,st2,f2,W,⟨m0,w0⟩,turn⟩:=h2
  apply kq
  subst e
  -- what stays true of the iterator's objects through the loop
  have stat:∀ {H':Hp},(∀ b∈fp,H' b=none)→∀ b∈fp,FpOk X pins H' b:=fun hn b hb=>⟨hn b hb,(f2 b hb).2⟩
  refine codeAny_forLoop_any (fun n s'=>∃ i σ' H',Inv X pins σ' H' s'∧tn i s'.heap∧(∀ b∈fp,H' b=none)∧W i n σ' H') ?_ m0 ⟨0,σ,H2,I2,st2,fun b hb=>(f2 b hb).1,w0⟩
  rintro n s3 ⟨i,σ3,H3,I3,st3,fr3,w3⟩
  rcases turn i n σ3 H3 w3 with ⟨stop,qn⟩ | ⟨go,N,hN,step⟩
  · refine wpAny_passesOwn hp (thn (T.done X rfl rfl rfl hc i pins s3 σ3 H3 X.xe I3 (stat fr3) st3 stop) fun r s4 hq9=>x0_2 hq9 fun hr I4 => ?_)
    subst hr
    exact wpAny_execs_nil ⟨σ3,H3,I4,qn⟩
  · refine wpAny_passesOwn hp (thn (T.item X rfl rfl rfl hc i pins s3 σ3 H3 X.xe I3 (stat fr3) st3 go) fun r s4 hq9=>x1_2 hq9 fun u hr h4 => ?_)
    subst hr
    refine wpAny_passesOwn hp (thn h4 fun _ s5 hq9=>x2_5 hq9 fun x H5 I5 r5 y5 st5 fr5 => ?_)
    have I5':=I5.pinned (stat fr5) (T.obj _ _ st5)
    refine wpAny_passesOwn hp (thn (hg _ s5 σ3 H5 x u _ I5' r5 (step x H5 y5)) fun _ s6 hq9=>x2_2 hq9 fun σ6 H6 I6 q6 => ?_)
    refine wpAny_passesOwn hp (thn (hb _ s6 σ6 H6 _ I6 q6) fun f s7 q7 => ?_)
    have again:∀ {σ7:St} {H7:Hp},Inv X (pins++pinsAt fp s5.heap) σ7 H7 s7→N σ7 H7→∃ m,m < n∧∃ i σ' H',Inv X pins σ' H' s7∧tn i s7.heap∧(∀ b∈fp,H' b=none)∧W i m σ' H':=fun {σ7 H7} I7 n7=>by
      refine x1_2 (hN σ7 H7 n7) fun m' hm w7 => ?_
      refine ⟨m',hm,i + 1,σ7,H7,I7.unpinned,T.keep _ _ _ st5 fun b hb o e=>(I7.pin (b,o) (List.mem_append_right _ (List.mem_append_right _ (mem_pinsAt hb e)))).1,fun b hb => ?_,w7⟩
      refine x1_2 (T.obj _ _ st5 b hb) fun o e d => ?_
      exact (I7.pin (b,o) (List.mem_append_right _ (List.mem_append_right _ (mem_pinsAt hb e)))).2.1
    cases f with
    | next=>obtain ⟨σ7,H7,I7,n7⟩:=q7;exact again I7 n7
    | cont=>obtain ⟨σ7,H7,I7,n7⟩:=q7;exact again I7 n7
    | brk=>obtain ⟨σ7,H7,I7,q7⟩:=q7;exact ⟨σ7,H7,I7.unpinned,q7⟩
    | ret v=>obtain ⟨x7,σ7,H7,I7,r7,q7⟩:=q7;exact ⟨x7,σ7,H7,I7.unpinned,r7,q7⟩
end

end L2

namespace L2
open PySem PySem.Spec PyProof.Rows

noncomputable abbrev R2:=V→V→Hp→VK→Prop
noncomputable def OpR (X:Cx) (f:Value→Value→Sem Value) (r:R2):Prop :=
  ∀ (pins:List (Addr×Obj)) (s:Shared) (σ:St) (H:Hp) (x y:V) (v u:Value) (Q:VK),Inv X pins σ H s→RelV x v→RelV y u→r x y H Q →
    wpAny (model X.prog X.w) X.A (f v u) (EP X pins σ Q) X.xe s
noncomputable def UnR (X:Cx) (f:Value→Sem Value) (r:V→Hp→VK→Prop):Prop :=
  ∀ (pins:List (Addr×Obj)) (s:Shared) (σ:St) (H:Hp) (x:V) (v:Value) (Q:VK),Inv X pins σ H s→RelV x v→r x H Q →
    wpAny (model X.prog X.w) X.A (f v) (EP X pins σ Q) X.xe s
noncomputable def CallR (X:Cx) (f:Value) (r:List V→Hp→VK→Prop):Prop :=
  ∀ (pins:List (Addr×Obj)) (s:Shared) (σ:St) (H:Hp) (xs:List V) (us:List Value) (Q:VK),Inv X pins σ H s→Vals xs us→r xs H Q →
    wpAny (model X.prog X.w) X.A (call f us) (EP X pins σ Q) X.xe s
noncomputable def TruR (X:Cx) (r:V→Hp→(Bool→Hp→Prop)→Prop):Prop :=
  ∀ (pins:List (Addr×Obj)) (s:Shared) (σ:St) (H:Hp) (x:V) (v:Value) (Q:Bool→Hp→Prop),Inv X pins σ H s→RelV x v→r x H Q →
    wpAny (model X.prog X.w) X.A (truthy v) (TP X pins σ Q) X.xe s

noncomputable def tOp (r:R2) (ta tb:TE):TE:=fun σ H Q=>ta σ H fun x H1=>tb σ H1 fun y H2=>r x y H2 Q
noncomputable def tUn (r:V→Hp→VK→Prop) (ta:TE):TE:=fun σ H Q=>ta σ H fun x H1=>r x H1 Q
noncomputable def rI (C:Int→Int→Prop) (g:Int→Int→V):R2:=fun x y H Q=>∃ i j,x = .int i∧y = .int j∧C i j∧Q (g i j) H
noncomputable def rI0 (g:Int→Int→V):R2:=fun x y H Q=>∃ i j,x = .int i∧y = .int j∧Q (g i j) H
noncomputable def rU (g:Int→V):V→Hp→VK→Prop:=fun x H Q=>∃ i,x = .int i∧Q (g i) H

section
variable {X:Cx} {a b c:Expr} {ta tb tc:TE} {pos:Pos}

theorem binT (ha:PE X a ta) (hb:PE X b tb) {pins:List (Addr×Obj)} {s:Shared} {σ:St} {H:Hp} {R:V→V→Hp→Prop} (I:Inv X pins σ H s)
    (h:ta σ H fun x H1=>tb σ H1 fun y H2=>R x y H2) {Q:Value→Shared→Prop} {f:Value→Value→Sem Value}
    (hf:∀ v u s2 x y H2,Inv X pins σ H2 s2→RelV x v→RelV y u→R x y H2→wpAny (model X.prog X.w) X.A (f v u) Q X.xe s2) :
    wpAny (model X.prog X.w) X.A (eval a X.env) (fun v s₁=>wpAny (model X.prog X.w) X.A (eval b X.env) (fun u s₂=>wpAny (model X.prog X.w) X.A (f v u) Q X.xe s₂) X.xe s₁) X.xe s:=by
  refine thn (ha pins s σ H _ I h) fun v s1 hq9=>x2_3 hq9 fun x H1 I1 r1 q1 => ?_
  refine thn (hb pins s1 σ H1 _ I1 q1) fun u s2 hq9=>x2_3 hq9 fun y H2 I2 r2 q2 => ?_
  exact hf v u s2 x y H2 I2 r1 r2 q2

theorem pe_op {op:Operator} {r:R2} (ho:OpR X (binaryOp op) r) (ha:PE X a ta) (hb:PE X b tb):PE X (.BinOp a op b pos) (tOp r ta tb):=by
  intro pins s σ H Q I h
  exact wpAny_BinOp (binT ha hb I h fun v u s2 x y H2 I2 rx ry q=>ho pins s2 σ H2 x y v u Q I2 rx ry q)
theorem pe_un {op:UnaryOp} {r:V→Hp→VK→Prop} (ho:UnR X (unaryOp op) r) (ha:PE X a ta):PE X (.UnaryOp op a pos) (tUn r ta):=by
  intro pins s σ H Q I h
  exact UnaryOp_ (thn (ha pins s σ H _ I h) fun v s1 hq9=>x2_3 hq9 fun x H1 I1 r1 q1=>ho pins s1 σ H1 x v Q I1 r1 q1)
theorem opI {f:Value→Value→Sem Value} {C:Int→Int→Prop} {g:Int→Int→Int}
    (rule:∀ (i j:Int) (t u:Tok) (s:Shared) (Q:Value→Shared→Prop) (E:Value→Shared→Prop),C i j→Q (.int (g i j) s.toks) { s with toks:=s.toks + 1 }→wpAny (model X.prog X.w) X.A (f (.int i t) (.int j u)) Q E s) :
    OpR X f (rI C fun i j => .int (g i j)):=by
  intro pins s σ H x y v u Q I rx ry h
  refine xq fun _ kq=>?_
  refine x2_4 (h) fun i j zq1 zq2 hc q => ?_
  obtain rfl:=zq1
  obtain rfl:=zq2
  obtain ⟨t,rfl⟩:=rx
  obtain ⟨t',rfl⟩:=ry
  apply kq
  exact rule i j t t' s _ _ hc ⟨.int (g i j),H,I.tok _,⟨_,rfl⟩,q⟩
theorem opI0 {f:Value→Value→Sem Value} {g:Int→Int→Int}
    (rule:∀ (i j:Int) (t u:Tok) (s:Shared) (Q:Value→Shared→Prop) (E:Value→Shared→Prop),Q (.int (g i j) s.toks) { s with toks:=s.toks + 1 }→wpAny (model X.prog X.w) X.A (f (.int i t) (.int j u)) Q E s) :
    OpR X f (rI0 fun i j => .int (g i j)):=by
  intro pins s σ H x y v u Q I rx ry h
  refine xq fun _ kq=>?_
  refine x2_3 (h) fun i j zq1 zq2 q => ?_
  obtain rfl:=zq1
  obtain rfl:=zq2
  obtain ⟨t,rfl⟩:=rx
  obtain ⟨t',rfl⟩:=ry
  apply kq
  exact rule i j t t' s _ _ ⟨.int (g i j),H,I.tok _,⟨_,rfl⟩,q⟩
theorem opB0 {f:Value→Value→Sem Value} {g:Int→Int→Bool}
    (rule:∀ (i j:Int) (t u:Tok) (s:Shared) (Q:Value→Shared→Prop) (E:Value→Shared→Prop),Q (.bool (g i j)) s→wpAny (model X.prog X.w) X.A (f (.int i t) (.int j u)) Q E s) :
    OpR X f (rI0 fun i j => .bl (g i j)):=by
  intro pins s σ H x y v u Q I rx ry h
  refine xq fun _ kq=>?_
  refine x2_3 (h) fun i j zq1 zq2 q => ?_
  obtain rfl:=zq1
  obtain rfl:=zq2
  obtain ⟨t,rfl⟩:=rx
  obtain ⟨t',rfl⟩:=ry
  apply kq
  exact rule i j t t' s _ _ ⟨.bl (g i j),H,I,rfl,q⟩

noncomputable def CDiv (i j:Int):Prop:=0 < j∧j < 1073741824
noncomputable def CDivN (i j:Int):Prop:=j≠0∧j.natAbs < 1073741824
noncomputable def CPow (i j:Int):Prop:=0≤j∧j≤1000000∧i.natAbs < 2 ^ 64
noncomputable def CMul (i j:Int):Prop:=(-(2 ^ 64) < i∧i < 2 ^ 64)∨(-(2 ^ 64) < j∧j < 2 ^ 64)
theorem CMul.ok {i j:Int} (h:CMul i j):IntMulOk i j:=by
  rcases h with ⟨h1,h2⟩ | ⟨h1,h2⟩
  · exact .of_left (intBits_le_64 h1 h2)
  · exact .of_right (intBits_le_64 h1 h2)
theorem two_pow_nn (k:Nat):(0:Int)≤2 ^ k:=by
  rw [two_pow_cast]
  exact Int.natCast_nonneg _

theorem op_add:OpR X (binaryOp .Add) (rI0 fun i j => .int (i + j)):=opI0 fun _ _ _ _ _ _ _ q=>add_int q
theorem op_sub:OpR X (binaryOp .Sub) (rI0 fun i j => .int (i - j)):=opI0 fun _ _ _ _ _ _ _ q=>sub_int q
theorem op_mul:OpR X (binaryOp .Mult) (rI CMul fun i j => .int (i * j)):=opI fun _ _ _ _ _ _ _ hc q=>mul_int q hc.ok
theorem op_mod:OpR X (binaryOp .Mod) (rI (fun _ j=>0 < j) fun i j => .int (i % j)):=opI fun i j _ _ _ _ _ hc q=>by
  have h1:(0:Int) < j:=hc
  exact mod_int' (by omega) (by rw [Int.fmod_eq_emod_of_nonneg i (by omega)];exact q)
theorem op_shl:OpR X (binaryOp .LShift) (rI CPow fun i j => .int (i * 2 ^ j.toNat)):=opI fun _ _ _ _ _ _ _ hc q=>lshift_int_small hc.1 hc.2.1 hc.2.2 q
theorem op_shr:OpR X (binaryOp .RShift) (rI (fun _ j=>0≤j) fun i j => .int (i / 2 ^ j.toNat)):=opI fun i j _ _ _ _ _ hc q =>
  rshift_int hc (by rw [Int.fdiv_eq_ediv_of_nonneg i (two_pow_nn _)];exact q)
theorem op_and:OpR X (binaryOp .BitAnd) (rI0 fun i j => .int (Builtin.bitAnd i j)):=opI0 fun _ _ _ _ _ _ _ q=>and_int q
theorem op_or:OpR X (binaryOp .BitOr) (rI0 fun i j => .int (Builtin.bitOr i j)):=opI0 fun _ _ _ _ _ _ _ q=>or_int q
theorem iop_or:OpR X (inplaceOp .BitOr) (rI0 fun i j => .int (Builtin.bitOr i j)):=opI0 fun _ _ _ _ _ _ _ q=>ior_int q
theorem unI {f:Value→Sem Value} {g:Int→Int}
    (rule:∀ (i:Int) (t:Tok) (s:Shared) (Q:Value→Shared→Prop) (E:Value→Shared→Prop),Q (.int (g i) s.toks) { s with toks:=s.toks + 1 }→wpAny (model X.prog X.w) X.A (f (.int i t)) Q E s) :
    UnR X f (rU fun i => .int (g i)):=by
  intro pins s σ H x v Q I rx h
  refine xq fun _ kq=>?_
  refine x1_2 (h) fun i zq1 q => ?_
  obtain rfl:=zq1
  obtain ⟨t,rfl⟩:=rx
  apply kq
  exact rule i t s _ _ ⟨.int (g i),H,I.tok _,⟨_,rfl⟩,q⟩
theorem un_inv:UnR X (unaryOp .Invert) (rU fun i => .int (Builtin.bitNot i)):=unI fun _ _ _ _ _ q=>invert_int q

end

noncomputable def scal:V→V→Bool
  | .non,.non=>true | .non,.int _=>true | .int _,.non=>true | .non,.bl _=>true | .bl _,.non=>true | .non,.str _=>true | .str _,.non=>true
  | .int _,.int _=>true | .bl _,.bl _=>true | .str _,.str _=>true | .byt _,.byt _=>true
  | .int _,.str _=>true | .str _,.int _=>true | .bl _,.str _=>true | .str _,.bl _=>true
  | _,_=>false
noncomputable def rEq:R2:=fun x y H Q=>scal x y=true∧Q (.bl (decide (x=y))) H
noncomputable def rNe:R2:=fun x y H Q=>scal x y=true∧Q (.bl (!decide (x=y))) H

section
variable {X:Cx} {a b c:Expr} {ta tb tc:TE} {pos:Pos}
theorem fin_bl {pins:List (Addr×Obj)} {σ:St} {H:Hp} {s:Shared} {Q:VK} {k k':Bool} (I:Inv X pins σ H s) (q:Q (.bl k) H) (e:k=k'):EP X pins σ Q (.bool k') s:=by
  subst e
  exact ⟨.bl k,H,I,rfl,q⟩
theorem op_lt:OpR X (compareOp .Lt) (rI0 fun i j => .bl (decide (i < j))):=opB0 fun _ _ _ _ _ _ _ q=>lt_int q
theorem op_gt:OpR X (compareOp .Gt) (rI0 fun i j => .bl (decide (j < i))):=opB0 fun _ _ _ _ _ _ _ q=>gt_int q
theorem op_ge:OpR X (compareOp .GtE) (rI0 fun i j => .bl (decide (j≤i))):=opB0 fun _ _ _ _ _ _ _ q=>ge_int q
theorem op_isN:OpR X (compareOp .Is) (fun x y H Q=>y = .non∧Q (.bl (decide (x = .non))) H):=by
  intro pins s σ H x y v u Q I rx ry h
  obtain ⟨rfl,q⟩:=h
  cases ry
  refine is_none_gen (fin_bl I q ?_)
  cases x <;> first
    | (cases rx;rfl)
    | (obtain ⟨t,rfl⟩:=rx;rfl)
theorem op_notN:OpR X (compareOp .IsNot) (fun x y H Q=>y = .non∧Q (.bl (!decide (x = .non))) H):=by
  intro pins s σ H x y v u Q I rx ry h
  obtain ⟨rfl,q⟩:=h
  cases ry
  refine isnot_none_gen (fin_bl I q ?_)
  cases x <;> first
    | (cases rx;rfl)
    | (obtain ⟨t,rfl⟩:=rx;rfl)

noncomputable def isObj:HO→Bool
  | .lst _=>true
  | .ins _ _ _=>true
  | _=>false
theorem OpR.or {f:Value→Value→Sem Value} {r r':R2} (h:OpR X f r) (h':OpR X f r'):OpR X f (fun x y H Q=>r x y H Q∨r' x y H Q):=by
  intro pins s σ H x y v u Q I rx ry q
  rcases q with q | q
  · exact h pins s σ H x y v u Q I rx ry q
  · exact h' pins s σ H x y v u Q I rx ry q

theorem nomark (b:Expr) {op:CmpOp} (h:op ≠ .In:=by decide) (h2:op ≠ .NotIn:=by decide):behindInMarks op b=false:=by
  have e1:(op==CmpOp.In)=false:=by cases op <;> first | rfl | exact absurd rfl h
  have e2:(op==CmpOp.NotIn)=false:=by cases op <;> first | rfl | exact absurd rfl h2
  cases b <;> simp [behindInMarks,e1,e2]
theorem pe_cmpR {op:CmpOp} {r:R2} (ho:OpR X (compareOp op) r) (ha:PE X a ta) (hb:PE X b tb) (hm:behindInMarks op b=false):PE X (.Compare a [op] [b] pos) (tOp r ta tb):=by
  intro pins s σ H Q I h
  exact wpAny_Compare1 (binT ha hb I h fun v u s2 x y H2 I2 rx ry q=>ho pins s2 σ H2 x y v u Q I2 rx ry q) hm
noncomputable def tTest (t:TE):TT:=fun σ H Q=>t σ H fun x H'=>∃ k,x = .bl k∧Q k H'
theorem pt_cmpR {op:CmpOp} {r:R2} (ho:OpR X (compareOp op) r) (ha:PE X a ta) (hb:PE X b tb) (hm:behindInMarks op b=false):PT X (.Compare a [op] [b] pos) (tTest (tOp r ta tb)):=by
  intro pins s σ H Q I h
  refine wpAny_isTrue_Compare1 (thn (ha pins s σ H _ I h) fun v s1 hq9=>x2_3 hq9 fun x H1 I1 r1 q1=>thn (hb pins s1 σ H1 _ I1 q1) fun u s2 hq9=>x2_3 hq9 fun y H2 I2 r2 q2 =>
    thn (ho pins s2 σ H2 x y v u _ I2 r1 r2 q2) fun c s3 ⟨z,H3,I3,r3,k,e,q3⟩ => ?_) hm
  subst e
  cases r3
  exact wpAny_truthy_bool ⟨H3,I3,q3⟩
noncomputable def tChain (r r':R2) (ta tb tc:TE):TE:=fun σ H Q=>ta σ H fun x H1=>tb σ H1 fun y H2=>r x y H2 fun z H3=>∃ k,z = .bl k ∧
  (if k=true then tc σ H3 fun w' H4=>r' y w' H4 Q else Q (.bl false) H3)
noncomputable def TruV (K:PySem.W.Frag) (x:V) (H:Hp) (k:Bool):Prop :=
  match x with
  | .non=>k=false
  | .bl b=>k=b
  | .int i=>k=(i != 0)
  | .str y=>y.length≤sizeLine∧k=((y.length:Int) != 0)
  | .byt y=>y.size≤sizeLine∧k=((y.size:Int) != 0)
  | .ref p=>(∃ xs,SqL K H p xs∧k = !xs.isEmpty)∨(∃ xs,SqT K H p xs∧k = !xs.isEmpty)∨∃ kvs,H p=some (.dK kvs)∧k = !kvs.isEmpty
  | _=>False
theorem isEmpty_kv {κ:Type} {kvs:List (κ×V)} {vs:List (κ×Value)} (r:KV kvs vs):(!vs.isEmpty) = !kvs.isEmpty:=by
  cases r <;> rfl
theorem isEmpty_of {xs:List V} {its:List Value} (r:Vals xs its):(!its.toArray.isEmpty) = !xs.isEmpty:=by
  cases r <;> simp
theorem line63:(sizeLine:Nat) < 2 ^ 63:=by rw [sizeLine_eq];decide
theorem tru_ok:TruR X (fun x H Q=>∃ k,TruV X.K x H k∧Q k H):=by
  intro pins s σ H x v Q I rx h
  refine x1_2 (h) fun k e q => ?_
  have hl:=line63
  have hs:sizeLine=16777216:=sizeLine_eq
  cases x with
  | non =>
    cases rx
    have e':k=false:=e
    subst e'
    exact truthy_none ⟨H,I,q⟩
  | bl b =>
    cases rx
    have e':k=b:=e
    subst e'
    exact wpAny_truthy_bool ⟨H,I,q⟩
  | int i =>
    obtain ⟨t,rfl⟩:=rx
    have e':k=(i != 0):=e
    subst e'
    exact PySem.P.truthy_int ⟨H,I,q⟩
  | str y =>
    obtain ⟨t,rfl⟩:=rx
    obtain ⟨hy,e'⟩:y.length≤sizeLine∧k=((y.length:Int) != 0):=e
    subst e'
    exact PySem.P.truthy_str (by omega) ⟨H,I.tok _,q⟩
  | byt y =>
    obtain ⟨t,rfl⟩:=rx
    obtain ⟨hy,e'⟩:y.size≤sizeLine∧k=((y.size:Int) != 0):=e
    subst e'
    exact PySem.W.truthy_bytes (by omega) ⟨H,I.tok _,q⟩
  | ref p =>
    cases rx
    have e':(∃ xs,SqL X.K H p xs∧k = !xs.isEmpty)∨(∃ xs,SqT X.K H p xs∧k = !xs.isEmpty)∨∃ kvs,H p=some (.dK kvs)∧k = !kvs.isEmpty:=e
    rcases e' with ⟨xs,hx,e'⟩ | ⟨xs,hx,e'⟩ | ⟨kvs,hx,e'⟩
    · subst e'
      refine xq fun _ kq=>?_
      refine x1_3 (I.list hx) fun its r pl hz => ?_
      apply kq
      have hlen:=r.length
      exact wpAny_truthy_list pl.isList (by simp only [List.size_toArray];omega) ⟨H,I.tok _,by rw [isEmpty_of r];exact q⟩
    · subst e'
      refine xq fun _ kq=>?_
      refine x1_3 (I.tuple hx) fun its r pl hz => ?_
      apply kq
      have hlen:=r.length
      exact truthy_tuple pl (by simp only [List.size_toArray];omega) ⟨H,I.tok _,by rw [isEmpty_of r];exact q⟩
    · subst e'
      refine xq fun _ kq=>?_
      obtain ⟨hz,hS,vs,r,m⟩:kvs.length≤sizeLine∧(p==sysModules)=false∧∃ vs,KV kvs vs∧s.heap.DictOf (mixKind X.prog X.w) p vs:=I.hok p _ hx
      apply kq
      have hlen:kvs.length=vs.length:=Paired.length r
      exact wpAny_truthy_dict hS m (by omega) ⟨H,I.tok _,by rw [isEmpty_kv r];exact q⟩
  | _=>exact (show False from e).elim
theorem pt_truth (ha:PE X a ta) (he:∀ whole,isTrue a X.env whole=(do let v ← whole;standAt a.pos;holding [v] (truthy v))) :
    PT X a (fun σ H Q=>ta σ H fun x H'=>∃ k,TruV X.K x H' k∧Q k H'):=by
  intro pins s σ H Q I h
  exact isTrue_plain (thn (ha pins s σ H _ I h) fun v s1 hq9=>x2_3 hq9 fun x H1 I1 r1 q1=>tru_ok pins s1 σ H1 x v Q I1 r1 q1) (he _)

theorem op_add_str:OpR X (binaryOp .Add) (fun x y H Q=>∃ i j,x = .str i∧y = .str j∧i.length + j.length≤sizeLine∧Q (.str (i++j)) H):=by
  intro pins s σ H x y v u Q I rx ry h
  refine xq fun _ kq=>?_
  refine x2_4 (h) fun i j zq1 zq2 hz q => ?_
  obtain rfl:=zq1
  obtain rfl:=zq2
  obtain ⟨t,rfl⟩:=rx
  obtain ⟨t',rfl⟩:=ry
  apply kq
  exact add_str (fun t' tk=>⟨.str (i++j),H,I.tok _,⟨_,rfl⟩,q⟩) hz
noncomputable def PlainIxT (b:Expr):Prop:=∀ o i,subscripted b false o i=operate [o,i] (getItem o i)
theorem vals1 {x:V} {us:List Value} (r:Vals [x] us):∃ u,us=[u]∧RelV x u:=by
  cases r with
  | cons r1 r2=>cases r2;exact ⟨_,rfl,r1⟩
theorem vals2 {x y:V} {us:List Value} (r:Vals [x,y] us):∃ u w',us=[u,w']∧RelV x u∧RelV y w':=by
  cases r with
  | cons r1 r2 =>
    cases r2 with
    | cons r3 r4=>cases r4;exact ⟨_,_,rfl,r1,r3⟩
noncomputable def LenV (K:PySem.W.Frag) (x:V) (H:Hp) (n:Nat):Prop :=
  match x with
  | .str y=>y.length≤sizeLine∧n=y.length
  | .byt y=>y.size≤sizeLine∧n=y.size
  | .ref p=>(∃ xs,SqL K H p xs∧n=xs.length)∨∃ xs,SqT K H p xs∧n=xs.length
  | _=>False
theorem call_len:CallR X (.builtin "len") (fun xs H Q=>∃ x n,xs=[x]∧LenV X.K x H n∧Q (.int n) H):=by
  intro pins s σ H xs us Q I r h
  refine xq fun _ kq=>?_
  refine x2_3 (h) fun x n zq1 e q => ?_
  obtain rfl:=zq1
  refine x1_2 (vals1 r) fun u zq1 rx => ?_
  obtain rfl:=zq1
  apply kq
  have hl:=line63
  have hs:sizeLine=16777216:=sizeLine_eq
  cases x with
  | str y =>
    obtain ⟨t,rfl⟩:=rx
    obtain ⟨hy,e'⟩:y.length≤sizeLine∧n=y.length:=e
    subst e'
    exact len_str (by omega) ⟨.int _,H,I.tok _,⟨_,rfl⟩,q⟩
  | byt y =>
    obtain ⟨t,rfl⟩:=rx
    obtain ⟨hy,e'⟩:y.size≤sizeLine∧n=y.size:=e
    subst e'
    exact PySem.W.len_bytes (by omega) ⟨.int _,H,I.tok _,⟨_,rfl⟩,q⟩
  | ref p =>
    cases rx
    have e':(∃ xs,SqL X.K H p xs∧n=xs.length)∨∃ xs,SqT X.K H p xs∧n=xs.length:=e
    rcases e' with ⟨xs,hx,e'⟩ | ⟨xs,hx,e'⟩
    · subst e'
      refine xq fun _ kq=>?_
      refine x1_3 (I.list hx) fun its r' pl hz => ?_
      apply kq
      have hlen:=r'.length
      exact Calls.call_len_list pl.isList (by simp only [List.size_toArray];omega) ⟨.int xs.length,H,I.tok _,⟨_,by simp only [List.size_toArray];rw [hlen]⟩,q⟩
    · subst e'
      refine xq fun _ kq=>?_
      refine x1_3 (I.tuple hx) fun its r' pl hz => ?_
      apply kq
      have hlen:=r'.length
      exact len_tuple pl (by simp only [List.size_toArray];omega) ⟨.int xs.length,H,I.tok _,⟨_,by simp only [List.size_toArray];rw [hlen]⟩,q⟩
  | _=>exact (show False from e).elim
end
end L2

namespace L2
open PySem PySem.Spec PyProof.Rows

structure ObjM (h:Heap) (x dx C:Addr) (mA:Str→Option Value):Prop where
  obj:h.get? x=some (PySem.W.instObj C dx)
  ns:h.Ns1 dx mA
  ne:dx≠x

theorem lookIn_ns {h:Heap} {dx:Addr} {mA:Str→Option Value} (n:h.Ns1 dx mA):∃ od,h.get? dx=some od∧∀ name,PySem.W.lookIn name od=some (mA name):=by
  refine xq fun _ kq=>?_
  refine x3_5 (n) fun o es ep ho hd hk _ hm => ?_
  apply kq
  refine ⟨o,ho,fun name => ?_⟩
  have e:=hm name
  unfold nsFind findBy at e
  rw [← Array.find?_toList] at e
  unfold PySem.W.lookIn
  rw [hd]
  dsimp only
  split
  · rename_i y q
    rw [q] at e
    exact congrArg some e
  · rename_i q
    rw [q] at e
    have a:es.toList.any (·.refKey)=false:=by
      rw [List.any_eq_false]
      intro y hy
      refine x2_1 (hk y (Array.mem_toList_iff.mp hy)) fun z t hkey => ?_
      simp [DictEntry.refKey,hkey]
    have a':¬ es.toList.any (·.refKey)=true:=by rw [a];exact Bool.false_ne_true
    rw [if_neg a']
    exact congrArg some e

theorem ObjM.look {h:Heap} {x dx C:Addr} {mA:Str→Option Value} (I:ObjM h x dx C mA):∃ od,PySem.W.InstAt h x (PySem.W.instObj C dx) C (some od)∧∀ name,PySem.W.lookIn name od=some (mA name) :=
  let ⟨od,ho,hl⟩:=lookIn_ns I.ns
  ⟨od,⟨I.obj,rfl,rfl,ho⟩,hl⟩

section
variable {prog:Program} {w:World} {A:Around} {E:Value→Shared→Prop} {s:Shared} {K:PySem.W.Frag} {x dx C f:Addr} {mA:Str→Option Value} {name:Str} {v:Value}

theorem get_map {expr:Bool} {Q:Value→Shared→Prop} (X:K.In s.heap) (I:ObjM s.heap x dx C mA) (hg:PySem.W.plainGet K C name=true) (hh:PySem.W.hasDictIn K C=true)
    (ha:PySem.W.findIn K (.ref C) name=some none) (hv:mA name=some v) (hv':PySem.W.handedIn v=true) (h:Q v { s with toks:=s.toks + 1 }) :
    wpAny (model prog w) A (getAttr (.ref x) name expr) Q E s:=by
  refine x1_2 (I.look) fun od J hl => ?_
  exact PySem.W.get_value X J (PySem.W.plainGet_of hg).1 (PySem.W.findObj_own hh ha rfl (by rw [hl,hv])) hv' h

theorem get_meth {pl:Sem Bool} {Q:Value×List Value→Shared→Prop} (X:K.In s.heap) (I:ObjM s.heap x dx C mA) (hg:PySem.W.plainGet K C name=true)
    (hf:PySem.W.findIn K (.ref C) name=some (some (.ref f))) (ht:PySem.W.isFn K (.ref f)=true) (hv:mA name=none) (h:Q (.ref f,[.ref x]) s) :
    wpAny (model prog w) A (getMethod (.ref x) name pl) Q E s:=by
  refine x1_2 (I.look) fun od J hl => ?_
  exact PySem.W.method_fn X J (PySem.W.plainGet_of hg).1 (PySem.W.plainGet_of hg).2 hf (beq_iff_eq.mp ht) (by show (PySem.W.lookIn name od).map (·.isSome)=some false;rw [hl,hv];rfl) h

theorem set_map {ns:List Str} {Q:Unit→Shared→Prop} (X:K.In s.heap) (I:ObjM s.heap x dx C mA)
    (hs:PySem.W.findIn K (.ref C) "__setattr__"=some (some (.builtin "object.__setattr__"))) (hp:PySem.W.plainOver K C=true) (ht:PySem.W.takerIn K C name=some none) (hh:PySem.W.hasDictIn K C=true)
    (hw:PySem.Within mA ns) (hsz:ns.length≤sizeLine)
    (h:∀ h',ObjM h' x dx C (fun y=>if y=name then some v else mA y)→Heap.SameBut dx s.heap h'→Q () { s with heap:=h',toks:=s.toks + 2 }) :
    wpAny (model prog w) A (setAttr (.ref x) name v) Q E s:=by
  refine x1_2 (I.look) fun od J hl => ?_
  refine PySem.W.set_plain X J hs (PySem.W.osa_open (s:={ s with toks:=s.toks + 1 }) (r:=none) X J hp ht fun b => ?_)
  refine x1_2 (PySem.W.any_some hh) fun cd hc hd' => ?_
  have hx:s.heap.get? x=some ⟨.ref C,some dx,.plain,#[]⟩:=I.obj
  refine wpAny_bind (wpAny_pure (wpAny_bind (wpAny_bind (wpAny_loadPart hx (wpAny_bind (PySem.W.Looks.here (s:={ s with toks:=s.toks + 1 }) (PySem.W.looks_clsIn X hc) ?_))))))
  rw [hd']
  refine wpAny_pure (a:=some dx) (wpAny_bind (wpAny_pure (wpAny_bind ?_)))
  refine wpAny_nsSet1 (s:={ s with toks:=s.toks + 1 }) I.ns fun h' hn2 hs2 => ?_
  refine xq fun _ kq=>?_
  refine x3_3 (hn2.count (PySem.Within.cons name v hw)) fun oD esD epD hoD hdD hcD => ?_
  apply kq
  refine wpAny_bind (wpAny_lookBehind hoD (by rw [hdD];exact pastItsLine_dict (Nat.le_trans hcD (by rw [List.length_cons];omega))) ?_)
  exact wpAny_pure (h _ ⟨(hs2.2 _ (Ne.symm I.ne)).trans I.obj,hn2,I.ne⟩ hs2)

theorem make_map {R:Result→Shared→Prop} {vs:List Value} {kw:List (Str×Value)} (X:K.In s.heap) (hm:PySem.W.makesIn K C=true)
    (hi:PySem.W.findIn K (.ref C) "__init__"=some (some (.ref f))) (hf:PySem.W.typeIn K (.ref f)=some (.type "function"))
    (h:codeAny (model prog w) (A.under (.builtin "type.__call__" ⟨.ref C :: vs,kw⟩)) (.call (.ref f) ⟨.ref (s.heap.objs.size + 1) :: vs,kw⟩) (PySem.W.InitBack (s.heap.objs.size + 1) R)
      { s with heap:=(s.heap.push PySem.W.emptyDict).push (PySem.W.instObj C s.heap.objs.size) }) :
    codeAny (model prog w) A (.call (.ref C) ⟨vs,kw⟩) R s:=by
  refine xq fun _ kq=>?_
  obtain ⟨hh,g,d,t,os⟩:=s
  apply kq
  exact PySem.W.make_core (PySem.W.makes_of X hm) (PySem.W.looks_findIn X hi) (fun self=>PySem.W.bind_fn X self hf) (.inl rfl) h
end

noncomputable def putF (f:Str) (v:V):List (Str×V)→List (Str×V)
  | []=>[(f,v)]
  | (g,x) :: r=>if g=f then (g,v) :: r else (g,x) :: putF f v r
theorem lookup_putF (f g:Str) (v:V):∀ fs:List (Str×V),(putF f v fs).lookup g=if g=f then some v else fs.lookup g
  | []=>by
    show List.lookup g [(f,v)]=_
    by_cases h:g=f
    · have hb:(g==f)=true:=beq_iff_eq.mpr h
      simp only [List.lookup,hb,if_pos h]
    · have hb:(g==f)=false:=beq_eq_false_iff_ne.mpr h
      simp only [List.lookup,hb,if_neg h]
  | (k,x) :: r=>by
    have ih:=lookup_putF f g v r
    rw [show putF f v ((k,x) :: r)=(if k=f then (k,v) :: r else (k,x) :: putF f v r) from rfl]
    by_cases hk:k=f
    · rw [if_pos hk]
      by_cases h:g=k
      · have hb:(g==k)=true:=beq_iff_eq.mpr h
        simp only [List.lookup,hb,if_pos (h.trans hk)]
      · have hb:(g==k)=false:=beq_eq_false_iff_ne.mpr h
        simp only [List.lookup,hb,if_neg (fun e:g=f=>h (e.trans hk.symm))]
    · rw [if_neg hk]
      by_cases h:g=k
      · have hb:(g==k)=true:=beq_iff_eq.mpr h
        simp only [List.lookup,hb,if_neg (fun e:g=f=>hk (h.symm.trans e))]
      · have hb:(g==k)=false:=beq_eq_false_iff_ne.mpr h
        simp only [List.lookup,hb]
        exact ih
theorem keys_putF (f:Str) (v:V):∀ fs:List (Str×V),f∈(putF f v fs).map (·.1)∧∀ g,g∈fs.map (·.1)→g∈(putF f v fs).map (·.1)
  | []=>⟨by simp [putF],fun g h=>by simp at h⟩
  | (k,x) :: r=>by
    obtain ⟨i1,i2⟩:=keys_putF f v r
    rw [show putF f v ((k,x) :: r)=(if k=f then (k,v) :: r else (k,x) :: putF f v r) from rfl]
    by_cases hk:k=f
    · rw [if_pos hk]
      subst hk
      exact ⟨by simp,fun g h=>by simpa using h⟩
    · rw [if_neg hk]
      refine ⟨?_,fun g h => ?_⟩
      · rw [List.map_cons]
        exact List.mem_cons_of_mem _ i1
      · rw [List.map_cons] at h ⊢
        rcases List.mem_cons.mp h with e | e
        · exact List.mem_cons.mpr (.inl e)
        · exact List.mem_cons_of_mem _ (i2 g e)
theorem length_putF (f:Str) (v:V):∀ fs:List (Str×V),(putF f v fs).length≤fs.length + 1
  | []=>by simp [putF]
  | (k,x) :: r=>by
    have ih:=length_putF f v r
    rw [show putF f v ((k,x) :: r)=(if k=f then (k,v) :: r else (k,x) :: putF f v r) from rfl]
    by_cases hk:k=f
    · rw [if_pos hk,List.length_cons,List.length_cons];omega
    · rw [if_neg hk,List.length_cons,List.length_cons];omega

theorem RelO.some_of {v:V} {o:Option Value} (r:RelO (some v) o):∃ u,o=some u∧RelV v u:=by
  cases o with
  | none=>exact (show False from r).elim
  | some u=>exact ⟨u,rfl,r⟩
theorem RelO.none_of {o:Option Value} (r:RelO none o):o=none:=by
  cases o with
  | none=>rfl
  | some u=>exact (show False from r).elim
theorem handed_of {v:V} {u:Value} (r:RelV v u):PySem.W.handedIn u=true:=by
  cases v with
  | non=>cases (show u=Value.none from r);rfl
  | bl b=>cases (show u=Value.bool b from r);rfl
  | int i=>obtain ⟨t,e⟩:=(show ∃ t,u=Value.int i t from r);cases e;rfl
  | str x=>obtain ⟨t,e⟩:=(show ∃ t,u=Value.str x t from r);cases e;rfl
  | byt b=>obtain ⟨t,e⟩:=(show ∃ t,u=Value.bytes b t from r);cases e;rfl
  | flt b=>obtain ⟨t,e⟩:=(show ∃ t,u=Value.float b t from r);cases e;rfl
  | ref a=>cases (show u=Value.ref a from r);rfl
  | ty n=>cases (show u=Value.type n from r);rfl

section
variable {P:Program} {w:World} {H H':Hp} {h h':Heap} {a C dx:Addr} {fs fs':List (Str×V)}
theorem ins_get (hok:HOk P w H h) (e:H a=some (.ins C dx fs)):∃ mA,ObjM h a dx C mA∧(∀ f,RelO (fs.lookup f) (mA f))∧PySem.Within mA (fs.map (·.1))∧fs.length≤1000∧H dx=some (.own a):=by
  refine xq fun _ kq=>?_
  obtain ⟨d,z,ne,ob,mA,n,r,q⟩:=(show ObjOk P w H h a (.ins C dx fs) from hok a _ e)
  apply kq
  exact ⟨mA,⟨ob,n,ne⟩,r,q,z,d⟩
end

structure Cls (K:PySem.W.Frag) (C:Addr):Prop where
  pg:PySem.W.plainGet K C Str.empty=true
  hd:PySem.W.hasDictIn K C=true
  po:PySem.W.plainOver K C=true
  sa:PySem.W.findIn K (.ref C) "__setattr__"=some (some (.builtin "object.__setattr__"))
theorem Cls.get {K:PySem.W.Frag} {C:Addr} (c:Cls K C) (f:Str):PySem.W.plainGet K C f=true:=c.pg
noncomputable def NoAttr (K:PySem.W.Frag) (C:Addr) (f:Str):Prop:=PySem.W.findIn K (.ref C) f=some none
theorem NoAttr.taker {K:PySem.W.Frag} {C:Addr} {f:Str} (n:NoAttr K C f):PySem.W.takerIn K C f=some none:=by
  unfold PySem.W.takerIn
  rw [show PySem.W.findIn K (.ref C) f=some none from n]
  rfl
structure Con (K:PySem.W.Frag) (C:Addr) (f:Str) (v:V) (u:Value):Prop where
  at_:PySem.W.findIn K (.ref C) f=some (some u)
  rel:RelV v u
  get:PySem.W.specialIn K u "__get__"=some none
  cp:PySem.W.copiedNames.contains f=false
structure Meth (K:PySem.W.Frag) (C:Addr) (m:Str) (f:Addr):Prop where
  at_:PySem.W.findIn K (.ref C) m=some (some (.ref f))
  fn:PySem.W.isFn K (.ref f)=true
  kp:PySem.W.keepIn K (.ref f)=true

section
variable {X:Cx} {pins:List (Addr×Obj)} {σ:St} {H:Hp} {s:Shared} {a C dx:Addr} {fs:List (Str×V)} {f:Str} {v:V} {A:Around} {E:Value→Shared→Prop}

theorem getattr_ok {b:Bool} {Q:Value→Shared→Prop} (I:Inv X pins σ H s) (e:H a=some (.ins C dx fs)) (c:Cls X.K C) (n:NoAttr X.K C f) (l:fs.lookup f=some v)
    (h:∀ u s',Inv X pins σ H s'→RelV v u→Q u s'):wpAny (model X.prog X.w) A (getAttr (.ref a) f b) Q E s:=by
  refine xq fun _ kq=>?_
  refine x1_5 (ins_get I.hok e) fun mA O r _ _ _ => ?_
  apply kq
  obtain ⟨u,hu,ru⟩:=RelO.some_of (v:=v) (o:=mA f) (by rw [← l];exact r f)
  exact get_map I.kIn O (c.get f) c.hd n hu (handed_of ru) (h u _ (I.tok _) ru)

theorem getmeth_ok {m:Str} {g:Addr} {pl:Sem Bool} {Q:Value×List Value→Shared→Prop} (I:Inv X pins σ H s) (e:H a=some (.ins C dx fs)) (c:Cls X.K C) (k:Meth X.K C m g) (l:fs.lookup m=none)
    (h:Q (.ref g,[.ref a]) s):wpAny (model X.prog X.w) A (getMethod (.ref a) m pl) Q E s:=by
  refine xq fun _ kq=>?_
  refine x1_5 (ins_get I.hok e) fun mA O r _ _ _ => ?_
  apply kq
  have hn:mA m=none:=RelO.none_of (by rw [← l];exact r m)
  exact get_meth I.kIn O (c.get m) k.at_ k.fn hn h

theorem setattr_ok {y:V} {u:Value} {Q:Unit→Shared→Prop} (I:Inv X pins σ H s) (e:H a=some (.ins C dx fs)) (c:Cls X.K C) (n:NoAttr X.K C f) (hl:fs.length < 1000) (ry:RelV y u)
    (h:∀ s',Inv X pins σ (upd H a (.ins C dx (putF f y fs))) s'→Q () s'):wpAny (model X.prog X.w) A (setAttr (.ref a) f u) Q E s:=by
  refine xq fun _ kq=>?_
  refine x1_5 (ins_get I.hok e) fun mA O r wi _ ho => ?_
  apply kq
  have hz:(fs.map (·.1)).length≤sizeLine:=by rw [List.length_map,sizeLine_eq];omega
  refine set_map I.kIn O c.sa c.po n.taker c.hd wi hz fun h' O' sb=>h _ ?_
  have hd:∃ o,h'.get? dx=some o:=let ⟨o,_,_,e',_⟩:=O'.ns;⟨o,e'⟩
  refine I.write (x:=a) (e:=dx) (by rw [e];exact True.intro) (.inr ho) (fun b q hb z=>(sb.2 b hb).trans z) hd ?_
  refine ⟨by rw [upd_ne O.ne];exact ho,?_,O.ne,O'.obj,_,O'.ns,fun g => ?_,fun g hg => ?_⟩
  · have:=length_putF f y fs;omega
  · show RelO ((putF f y fs).lookup g) (if g=f then some u else mA g)
    rw [lookup_putF]
    by_cases q:g=f
    · rw [if_pos q,if_pos q];exact ry
    · rw [if_neg q,if_neg q];exact r g
  · by_cases q:g=f
    · rw [q];exact (keys_putF f y fs).1
    · refine (keys_putF f y fs).2 g (wi g fun z=>hg ?_)
      show (if g=f then some u else mA g)=none
      rw [if_neg q];exact z

theorem Inv.made (I:Inv X pins σ H s):Inv X pins σ (upd (upd H s.heap.objs.size (.own (s.heap.objs.size + 1))) (s.heap.objs.size + 1) (.ins C s.heap.objs.size []))
    { s with heap:=(s.heap.push PySem.W.emptyDict).push (PySem.W.instObj C s.heap.objs.size) }:=by
  have e1:(s.heap.push PySem.W.emptyDict).get? s.heap.objs.size=some PySem.W.emptyDict:=Heap.get?_push_size s.heap rfl
  have e2:((s.heap.push PySem.W.emptyDict).push (PySem.W.instObj C s.heap.objs.size)).get? (s.heap.objs.size + 1)=some (PySem.W.instObj C s.heap.objs.size):=by
    have:=Heap.get?_push_size (s.heap.push PySem.W.emptyDict) (o:=PySem.W.instObj C s.heap.objs.size) rfl
    rwa [Heap.size_push] at this
  have e3:(s.heap.push PySem.W.emptyDict).Ns s.heap.objs.size (fun _=>none):=⟨PySem.W.emptyDict,#[],_,e1,rfl,(fun e he=>absurd he (by simp)),fun _=>rfl⟩
  have I1:=I.laid (a:=s.heap.objs.size) (o := .own (s.heap.objs.size + 1)) (h':=s.heap.push PySem.W.emptyDict) (t':=s.toks) (fun b u q=>Heap.get?_push_of_some _ q) (Nat.le_refl _) ⟨_,e1⟩
  refine I1.laid (a:=s.heap.objs.size + 1) (o := .ins C s.heap.objs.size []) (t':=s.toks) (fun b u q=>Heap.get?_push_of_some _ q) (Nat.le_of_eq (Heap.size_push _ _)) ?_
  have ne:s.heap.objs.size≠s.heap.objs.size + 1:=Nat.ne_of_lt (Nat.lt_succ_self _)
  refine ⟨by rw [upd_ne ne,upd_same],Nat.zero_le _,ne,e2,fun _=>none,(Heap.Ns1.of_empty e3).at fun o q=>Heap.get?_push_of_some _ q,fun _=>True.intro,fun y hy=>absurd rfl hy⟩

theorem attr_of {prog:Program} {w:World} {env:Env} {e:Expr} {f:Str} {pos:Pos} {s:Shared} {Q:Value→Shared→Prop} (hb:attributeBase e f env (eval e env)=eval e env)
    (h:wpAny (model prog w) A (eval e env) (fun o s₁=>wpAny (model prog w) A (getAttr o f true) Q E s₁) E s):wpAny (model prog w) A (eval (.Attribute e f pos) env) Q E s :=
  Attribute_any_ h (by rw [arm_eval_Attribute,hb])
end

noncomputable def tFld (K:PySem.W.Frag) (ta:TE) (f:Str):TE:=fun σ H Q=>ta σ H fun x H1=>∃ a C dx fs v,x = .ref a∧H1 a=some (.ins C dx fs)∧Cls K C∧NoAttr K C f∧fs.lookup f=some v∧Q v H1
noncomputable def tCon (K:PySem.W.Frag) (ta:TE) (f:Str):TE:=fun σ H Q=>ta σ H fun x H1=>∃ a C dx fs v u,x = .ref a∧H1 a=some (.ins C dx fs)∧Cls K C∧Con K C f v u∧fs.lookup f=none∧Q v H1
noncomputable def sFld (K:PySem.W.Frag) (ta tv:TE) (f:Str):TS:=fun D σ H=>tv σ H fun y H1=>ta σ H1 fun x H2=>∃ a C dx fs,x = .ref a∧H2 a=some (.ins C dx fs)∧Cls K C∧NoAttr K C f∧fs.length < 1000 ∧
  D.nx σ (upd H2 a (.ins C dx (putF f y fs)))
noncomputable def InOp (X:Cx) (op:Operator) (rd:V→V→Hp→VK→Prop):Prop :=
  ∀ (pins:List (Addr×Obj)) (s:Shared) (σ:St) (H:Hp) (x y:V) (u v:Value) (Q:VK),Inv X pins σ H s→RelV x u→RelV y v→rd x y H Q→wpAny (model X.prog X.w) X.A (inplaceOp op u v) (EP X pins σ Q) X.xe s
noncomputable def sFldAug (K:PySem.W.Frag) (ta tv:TE) (rd:V→V→Hp→VK→Prop) (f:Str):TS:=fun D σ H=>ta σ H fun x H1=>∃ a C dx fs v,x = .ref a∧H1 a=some (.ins C dx fs)∧Cls K C∧NoAttr K C f∧fs.lookup f=some v ∧
  tv σ H1 fun y H2=>rd v y H2 fun z H3=>∃ dx' fs',H3 a=some (.ins C dx' fs')∧fs'.length < 1000∧D.nx σ (upd H3 a (.ins C dx' (putF f z fs')))

section
variable {X:Cx} {o e value:Expr} {f:Str} {pos pos' tpos:Pos} {ta tv:TE}
theorem pe_fld (he:PE X e ta) (hb:attributeBase e f X.env (eval e X.env)=eval e X.env):PE X (.Attribute e f pos) (tFld X.K ta f):=by
  intro pins s σ H Q I h
  refine attr_of hb (thn (he pins s σ H _ I h) fun u s1 hq9=>x2_3 hq9 fun x H1 I1 rx hq9=>x5_6 hq9 fun a C dx fs v ex ea c n l q => ?_)
  subst ex
  obtain rfl:u=Value.ref a:=rx
  exact getattr_ok I1 ea c n l fun u' s2 I2 ru=>⟨v,H1,I2,ru,q⟩
theorem ps_fld (ha:PE X o ta) (hv:PE X value tv) (hs:swapsWith value (some (.Attribute o f pos')) pos.line X.env=pure false):PS X (.Assign [.Attribute o f pos'] value pos) (sFld X.K ta tv f):=by
  intro pins s σ H D I h
  refine plainObj_wpAny_Assign_Attribute (thn (hv pins s σ H _ I h) fun u s1 hq9=>x2_3 hq9 fun y H1 I1 ry q=>thn (ha pins s1 σ H1 _ I1 q) fun ov s2 hq9=>x2_3 hq9 fun x H2 I2 rx hq9=>x4_6 hq9 fun a C dx fs ex ea c n l q2 => ?_) hs
  subst ex
  obtain rfl:ov=Value.ref a:=rx
  exact setattr_ok I2 ea c n l ry fun s3 I3=>⟨σ,_,I3,q2⟩
noncomputable def rAdd:V→V→Hp→VK→Prop:=fun x y H Q=>∃ i j,x = .int i∧y = .int j∧Q (.int (i + j)) H
noncomputable def rSub:V→V→Hp→VK→Prop:=fun x y H Q=>∃ i j,x = .int i∧y = .int j∧Q (.int (i - j)) H
end

section
variable {X:Cx} {pins:List (Addr×Obj)} {σ:St} {H:Hp} {s:Shared} {A:Around} {E:Value→Shared→Prop} {Q:Value→Shared→Prop} {c:Value} {b:Bool}
inductive TyOf (K:PySem.W.Frag) (H:Hp):V→Value→Prop where
  | non:TyOf K H .non (.type "NoneType")
  | bl (x:Bool):TyOf K H (.bl x) (.type "bool")
  | int (i:Int):TyOf K H (.int i) (.type "int")
  | str (x:Str):TyOf K H (.str x) (.type "str")
  | flt (x:UInt64):TyOf K H (.flt x) (.type "float")
  | lst {a:Addr} {xs:List V} (e:H a=some (.lst xs)):TyOf K H (.ref a) (.type "list")
  | frz {a:Addr} {o:Obj} {xs:List V} (e:H a=some (.frz o (.lst xs))):TyOf K H (.ref a) (.type "list")
  | tup {a:Addr} {xs:List V} (e:H a=some (.tup xs)):TyOf K H (.ref a) (.type "tuple")
  | dK {a:Addr} {kvs:List (Key×V)} (e:H a=some (.dK kvs)):TyOf K H (.ref a) (.type "dict")
  | dT {a:Addr} {kvs:List (List Key×V)} (e:H a=some (.dT kvs)):TyOf K H (.ref a) (.type "dict")
  | ins {a C dx:Addr} {fs:List (Str×V)} (e:H a=some (.ins C dx fs)) (cl:Cls K C) (ha:PySem.W.findIn K (.ref C) "__class__"=some (some (.builtin "object.__class__")))
      (hn:PySem.W.specialIn K (.builtin "object.__class__") "__get__"=some (some (.builtin "getset_descriptor.__get__"))) (htk:PySem.W.takesIn K (.builtin "object.__class__")=some true)
      (hm:PySem.W.mroIn K C (.type "object")=some true):TyOf K H (.ref a) (.ref C)
end
end L2

namespace L2
open PySem PySem.Spec PyProof.Rows

structure Room (k:Nat) (A:Around):Prop where
  hd:A.handled=none
  dp:A.depth + 3 * k + 5 < recursionLimit
  un:A.units + 16 * k + 200 < cLine
theorem Room.mono {j k:Nat} {A:Around} (r:Room k A) (h:j≤k):Room j A:=⟨r.hd,by have:=r.dp;omega,by have:=r.un;omega⟩
theorem Room.deeper {k:Nat} {A:Around} (r:Room (k + 1) A) (env:Env):Room k (A.deeper env) :=
  ⟨r.hd,by have:=r.dp;show A.depth + 1 + 3 * k + 5 < _;omega,by have:=r.un;show A.units + 3 + 16 * k + 200 < _;omega⟩
theorem Room.in1 {k:Nat} {A:Around} (r:Room (k + 1) A):Room k A.in1 :=
  ⟨r.hd,by have:=r.dp;show A.depth + 3 * k + 5 < _;omega,by have:=r.un;show A.units + 1 + 16 * k + 200 < _;omega⟩
theorem make_depth {A:Around} {C:Addr} {us:List Value} {kw:List (Str×Value)}:(A.under (.builtin "type.__call__" ⟨.ref C :: us,kw⟩)).depth=A.depth + 1:=by
  first | rfl | simp [Around.under,Code.weight,Code.isCreation,Code.isGuard,Code.isCaller,Code.frames,Code.isFrame,guardIds]
theorem make_units {A:Around} {C:Addr} {us:List Value} {kw:List (Str×Value)}:(A.under (.builtin "type.__call__" ⟨.ref C :: us,kw⟩)).units=A.units + 1:=by
  first | rfl | simp [Around.under,Code.cUnits,Code.frames,Code.isFrame]
theorem Room.make {k:Nat} {A:Around} (r:Room (k + 1) A) (C:Addr) (us:List Value) (kw:List (Str×Value)):Room k (A.under (.builtin "type.__call__" ⟨.ref C :: us,kw⟩)) :=
  ⟨r.hd,by have:=r.dp;rw [make_depth];omega,by have:=r.un;rw [make_units];omega⟩
theorem Room.depth {k:Nat} {A:Around} (r:Room k A):A.depth < recursionLimit:=by have:=r.dp;omega
theorem Room.units {k:Nat} {A:Around} (r:Room k A):A.units + 64 < cLine:=by have:=r.un;omega
noncomputable def tNil:TA:=fun _ H Q=>Q [] H
noncomputable def tCons (ta:TE) (tr:TA):TA:=fun σ H Q=>ta σ H fun x H1=>tr σ H1 fun xs H2=>Q (x :: xs) H2
section
variable {X:Cx} {e:Expr} {es:List Expr} {te:TE} {t:TA} {pos:Pos}
theorem pa_nil:PA X [] tNil:=fun _ _ _ _ H Q I h=>Calls.spliced_nil ⟨[],H,I,.nil,h⟩
theorem pa_cons (ha:PE X e te) (hr:PA X es t) (hs:starEach (e :: es) X.env=(false,eval e X.env) :: starEach es X.env:=by rfl):PA X (e :: es) (tCons te t):=by
  intro pos pins s σ H Q I h
  rw [hs]
  show wpAny _ _ (spliced ((false,eval e X.env) :: backTo pos (starEach es X.env))) _ _ s
  refine Calls.spliced_cons (thn (ha pins s σ H _ I h) fun u s1 hq9=>x2_3 hq9 fun x H1 I1 r1 q1 => ?_)
  exact thn (hr pos pins s1 σ H1 _ I1 q1) fun us s2 hq9=>x2_3 hq9 fun xs H2 I2 r2 q2=>⟨x :: xs,H2,I2,.cons r1 r2,q2⟩

noncomputable def tTup (t:TA):TE:=fun σ H Q=>t σ H fun xs H1=>xs.length≤sizeLine∧∀ p,H1 p=none→Q (.ref p) (upd H1 p (.tup xs))
noncomputable def tLst (t:TA):TE:=fun σ H Q=>t σ H fun xs H1=>xs.length≤sizeLine∧∀ p,H1 p=none→Q (.ref p) (upd H1 p (.lst xs))
theorem pe_tup {x1} (h:PA X es t):PE X (.Tuple es x1 pos) (tTup t):=by
  intro pins s σ H Q I hq
  refine wpAny_Tuple_spliced (thn (h pos pins s σ H _ I hq) fun us s1 hq9=>x2_4 hq9 fun xs H1 I1 r z q=>⟨by rw [← r.length];exact z,?_⟩)
  have hf:H1 s1.heap.objs.size=none:=I1.hok.fresh (Nat.le_refl _)
  refine ⟨.ref s1.heap.objs.size,upd H1 s1.heap.objs.size (.tup xs),I1.laid (t':=s1.toks) (fun b u e=>Heap.get?_push_of_some _ e) (Nat.le_refl _) ?_,rfl,q _ hf⟩
  exact ⟨z,us,r,⟨_,Heap.get?_push_size _ rfl,rfl,_,rfl⟩⟩
theorem pe_lst (h:PA X es t):PE X (.List es pos) (tLst t):=by
  intro pins s σ H Q I hq
  refine wpAny_List_spliced (thn (h pos pins s σ H _ I hq) fun us s1 hq9=>x2_4 hq9 fun xs H1 I1 r z q=>⟨by rw [← r.length];exact z,?_⟩)
  have hf:H1 s1.heap.objs.size=none:=I1.hok.fresh (Nat.le_refl _)
  refine ⟨.ref s1.heap.objs.size,upd H1 s1.heap.objs.size (.lst xs),I1.laid (t':=s1.toks) (fun b u e=>Heap.get?_push_of_some _ e) (Nat.le_refl _) ?_,rfl,q _ hf⟩
  exact ⟨z,us,0,r,Heap.get?_push_size _ rfl⟩
end

noncomputable abbrev Sp:=List V→Hp→VK→XK→Prop
noncomputable abbrev CXT:=List Env→Hp→Shared→XK→Value→Shared→Prop

structure Env0 (P:Program) (w:World) (K:PySem.W.Frag) (mg:Str→Option Value) (base:Heap) (A:Around) (outer:List Env) (s:Shared) (H:Hp):Prop where
  frames:A.frames=some outer
  mod:Mod K mg base
  bs:∀ b o,base.get? b=some o→s.heap.get? b=some o∧H b=none
  bsz:base.objs.size≤s.heap.objs.size
  funs:s.heap.FunFrames base outer
  frf:∀ b∈frs outer,H b=none
  hok:HOk P w H s.heap
  bare:AllBare s.gens
noncomputable def CE (outer:List Env) (P:Program) (w:World) (H:Hp) (s:Shared) (Q:VK) (u:Value) (s':Shared):Prop :=
  ∃ v H',s'.os=s.os∧AllBare s'.gens∧Un (frs outer) [] H H' s.heap s'.heap∧HOk P w H' s'.heap∧RelV v u∧Q v H'
noncomputable def CR (CX:CXT) (outer:List Env) (P:Program) (w:World) (H:Hp) (s:Shared) (Q:VK) (E:XK) (r:Result) (s':Shared):Prop :=
  match r with
  | .ok (.ret u)=>CE outer P w H s Q u s'
  | .ok _=>False
  | .error e=>CX outer H s E e s'
structure FnOk (P:Program) (w:World) (K:PySem.W.Frag) (mg:Str→Option Value) (base:Heap) (CX:CXT) (k:Nat) (f:Addr) (fd:FuncData) (ps:List Str) (sp:Sp):Prop where
  len:∀ vs H Q E,sp vs H Q E→vs.length=ps.length
  run:∀ (A:Around) (outer:List Env) (s:Shared) (H:Hp) (args:Args) (us:List Value) (vs:List V) (Q:VK) (E:XK),Room k A→Env0 P w K mg base A outer s H→BindsTo s fd args (ps.zip us)→Vals vs us→sp vs H Q E →
    codeAny (model P w) A (.call (.ref f) args) (CR CX outer P w H s Q E) s
theorem FnOk.mono {P:Program} {w:World} {K:PySem.W.Frag} {mg:Str→Option Value} {base:Heap} {CX:CXT} {j k:Nat} {f:Addr} {fd:FuncData} {ps:List Str} {sp:Sp} (F:FnOk P w K mg base CX j f fd ps sp) (h:j≤k) :
    FnOk P w K mg base CX k f fd ps sp:=⟨F.len,fun A outer s H args us vs Q E hr=>F.run A outer s H args us vs Q E (hr.mono h)⟩
theorem FnOk.imp {P:Program} {w:World} {K:PySem.W.Frag} {mg:Str→Option Value} {base:Heap} {CX:CXT} {k:Nat} {f:Addr} {fd:FuncData} {ps:List Str} {sp sp':Sp} (F:FnOk P w K mg base CX k f fd ps sp)
    (h:∀ vs H Q E,sp' vs H Q E→sp vs H Q E):FnOk P w K mg base CX k f fd ps sp' :=
  ⟨fun vs H Q E q=>F.len vs H Q E (h _ _ _ _ q),fun A outer s H args us vs Q E hr he hb hv hs=>F.run A outer s H args us vs Q E hr he hb hv (h _ _ _ _ hs)⟩

theorem Env0.make {P:Program} {w:World} {K:PySem.W.Frag} {mg:Str→Option Value} {base:Heap} {A:Around} {outer:List Env} {s:Shared} {H:Hp} (e:Env0 P w K mg base A outer s H) (C:Addr) (us:List Value) (kw:List (Str×Value)) :
    Env0 P w K mg base (A.under (.builtin "type.__call__" ⟨.ref C :: us,kw⟩)) outer s H:=⟨by first | exact e.frames | (simpa [Around.under,Code.envs,Code.isFrame,pushEnvs] using e.frames),e.mod,e.bs,e.bsz,e.funs,e.frf,e.hok,e.bare⟩
theorem Env0.in1 {P:Program} {w:World} {K:PySem.W.Frag} {mg:Str→Option Value} {base:Heap} {A:Around} {outer:List Env} {s:Shared} {H:Hp} (e:Env0 P w K mg base A outer s H) :
    Env0 P w K mg base A.in1 outer s H:=⟨e.frames,e.mod,e.bs,e.bsz,e.funs,e.frf,e.hok,e.bare⟩

section
variable {X:Cx} {pins:List (Addr×Obj)} {σ:St} {H:Hp} {s s':Shared}
theorem Inv.env0 (I:Inv X pins σ H s):Env0 X.prog X.w X.K X.mg X.base X.A X.stack s H :=
  ⟨I.ok.frames,I.ok.mod,I.bs,Nat.le_trans I.ok.bsz I.sz,I.stack,I.stkFree,I.hok,I.bare⟩
theorem Inv.after {Q:VK} {u:Value} (I:Inv X pins σ H s) (h:CE X.stack X.prog X.w H s Q u s'):EP X pins σ Q u s':=by
  refine xq fun _ kq=>?_
  refine x2_6 (h) fun v H' os bare un hok r q => ?_
  obtain ⟨hh,g,d,t,os'⟩:=s'
  obtain rfl:os'=s.os:=os
  apply kq
  exact ⟨v,H',I.call (h':=hh) (g':=g) (d':=d) (t':=t) (ch:=[]) un hok bare (fun b z=>absurd z (by simp)),r,q⟩
end

noncomputable def tCall (sp:Sp) (dvs:List V) (E:XK) (t:TA):TE:=fun σ H Q=>t σ H fun vs H1=>sp (vs++dvs) H1 Q E
noncomputable def tMeth (C:Addr) (m:Str) (sp:Sp) (dvs:List V) (E:XK) (ta:TE) (t:TA):TE:=fun σ H Q=>ta σ H fun x H1=>∃ a dx fs,x = .ref a∧H1 a=some (.ins C dx fs)∧fs.lookup m=none ∧
  t σ H1 fun vs H2=>sp (x :: (vs++dvs)) H2 Q E
noncomputable def tMake (C:Addr) (sp:Sp) (dvs:List V) (E:XK) (t:TA):TE:=fun σ H Q=>t σ H fun vs H1=>∀ x dx,H1 x=none→H1 dx=none→dx≠x →
  sp (.ref x :: (vs++dvs)) (upd (upd H1 dx (.own x)) x (.ins C dx [])) (fun v H2=>v = .non∧Q (.ref x) H2) E

noncomputable def Binds (K:PySem.W.Frag) (fd:FuncData) (ps:List Str) (ds:List Value):Prop :=
  ∀ (s:Shared) (us:List Value),K.In s.heap→(us++ds).length=ps.length→BindsTo s fd ⟨us,[]⟩ (ps.zip (us++ds))
theorem Binds.all {K:PySem.W.Frag} {fd:FuncData} {ps:List Str} (h:∀ us:List Value,us.length=ps.length→bindArgs fd ⟨us,[]⟩=pure (ps.zip us)):Binds K fd ps []:=fun s us _ hl=>by
  rw [List.append_nil] at hl ⊢
  exact .of_eq (h us hl)

noncomputable def Passes (CX:CXT) (X:Cx) (E:XK):Prop:=∀ (pins:List (Addr×Obj)) (σ:St) (H:Hp) (s:Shared) (e:Value) (s':Shared),Inv X pins σ H s→CX X.stack H s E e s'→X.xe e s'

section
variable {X:Cx} {CX:CXT} {k:Nat} {f C:Addr} {fd:FuncData} {ps:List Str} {sp:Sp} {dvs:List V} {ds:List Value} {E:XK} {x m:Str} {p pos apos:Pos} {e o:Expr} {es:List Expr} {ta:TE} {t:TA}

theorem run_fn {pins:List (Addr×Obj)} {σ:St} {H:Hp} {s:Shared} {Q:VK} {us:List Value} {vs:List V} (F:FnOk X.prog X.w X.K X.mg X.base CX k f fd ps sp) (hr:Room k X.A) (hb:Binds X.K fd ps ds) (hd:Vals dvs ds) (hx:Passes CX X E)
    (I:Inv X pins σ H s) (r:Vals vs us) (h:sp (vs++dvs) H Q E):wpAny (model X.prog X.w) X.A (call (.ref f) us) (EP X pins σ Q) X.xe s:=by
  have r2:Vals (vs++dvs) (us++ds):=r.append hd
  have hl:(us++ds).length=ps.length:=by rw [← r2.length];exact F.len _ _ _ _ h
  refine wpAny_call (codeAny_mono (F.run X.A X.stack s H ⟨us,[]⟩ (us++ds) (vs++dvs) Q E hr I.env0 (hb s us I.kIn hl) r2 h) fun r s' hq => ?_)
  cases r with
  | error e=>exact hx pins σ H s e s' I hq
  | ok fl =>
    cases fl with
    | ret u=>exact I.after hq
    | next=>exact False.elim hq
    | brk=>exact False.elim hq
    | cont=>exact False.elim hq

theorem pe_call (F:FnOk X.prog X.w X.K X.mg X.base CX k f fd ps sp) (hr:Room k X.A) (hg:Gl X x) (hm:X.mg x=some (.ref f)) (hk:PySem.W.keepIn X.K (.ref f)=true) (hb:Binds X.K fd ps ds) (hd:Vals dvs ds) (hx:Passes CX X E)
    (ha:PA X (e :: es) t) (hdb:(x==("__debug__":Str))=false:=by decide) (he:starEach (e :: es) X.env=(false,eval e X.env) :: starEach es X.env:=by rfl) (hpl:(backTo pos (starEach es X.env)).any (·.1)=false:=by rfl) :
    PE X (.Call (.Name x p) (e :: es) [] pos) (tCall sp dvs E t):=by
  intro pins s σ H Q I h
  refine wpAny_Call_Name_kw (ld_glob I hg hm ?_ hdb)
  refine PySem.W.callWith_K (h₀:=X.base) I.ok.mod.kin hk (thn (ha pos pins s σ H _ I h) fun us s1 hq9=>x2_3 hq9 fun vs H1 I1 r q=>⟨I1.kIn,?_⟩) he hpl
  exact run_fn F hr hb hd hx I1 r q
theorem pe_meth {pl:Sem Bool} (he:PE X o ta) (c:Cls X.K C) (hm:Meth X.K C m f) (F:FnOk X.prog X.w X.K X.mg X.base CX k f fd ps sp) (hr:Room k X.A) (hb:Binds X.K fd ps ds) (hd:Vals dvs ds) (hx:Passes CX X E) (ha:PA X (e :: es) t)
    (hst:starEach (e :: es) X.env=(false,eval e X.env) :: starEach es X.env:=by rfl) (hpl:(backTo pos (starEach es X.env)).any (·.1)=false:=by rfl)
    (ht:eval (.Call (.Attribute o m apos) (e :: es) [] pos) X.env=(do
      let ov ← eval o X.env
      standAt apos.atName
      let (f,first) ← holding [ov] (getMethod ov m pl)
      callWith pos f first (backTo pos (starEach (e :: es) X.env)) (backToKw pos (keywordEach [] X.env))):=by rfl) :
    PE X (.Call (.Attribute o m apos) (e :: es) [] pos) (tMeth C m sp dvs E ta t):=by
  intro pins s σ H Q I h
  refine PySem.W.methodCall_KW (pl:=pl) (thn (he pins s σ H _ I h) fun u s1 hq9=>x2_3 hq9 fun x H1 I1 rx hq9=>x3_4 hq9 fun a dx fs ex ea l q => ?_) ht
  subst ex
  obtain rfl:u=Value.ref a:=rx
  refine getmeth_ok I1 ea c hm l ?_
  refine PySem.W.callWith_K (first:=[.ref a]) (h₀:=X.base) I.ok.mod.kin hm.kp (thn (ha pos pins s1 σ H1 _ I1 q) fun us s2 hq9=>x2_3 hq9 fun vs H2 I2 r q2=>⟨I2.kIn,?_⟩) hst hpl
  exact run_fn (us := .ref a :: us) (vs := .ref a :: vs) F hr hb hd hx I2 (.cons rfl r) q2
theorem pe_meth0 {pl:Sem Bool} (he:PE X o ta) (c:Cls X.K C) (hm:Meth X.K C m f) (F:FnOk X.prog X.w X.K X.mg X.base CX k f fd ps sp) (hr:Room k X.A) (hb:Binds X.K fd ps ds) (hd:Vals dvs ds) (hx:Passes CX X E)
    (ht:eval (.Call (.Attribute o m apos) [] [] pos) X.env=(do
      let ov ← eval o X.env
      standAt apos.atName
      let (f,first) ← holding [ov] (getMethod ov m pl)
      callWith pos f first (backTo pos (starEach [] X.env)) (backToKw pos (keywordEach [] X.env))):=by rfl) :
    PE X (.Call (.Attribute o m apos) [] [] pos) (tMeth C m sp dvs E ta tNil):=by
  intro pins s σ H Q I h
  refine PySem.W.methodCall_KW (pl:=pl) (thn (he pins s σ H _ I h) fun u s1 hq9=>x2_3 hq9 fun x H1 I1 rx hq9=>x3_4 hq9 fun a dx fs ex ea l q => ?_) ht
  subst ex
  obtain rfl:u=Value.ref a:=rx
  refine getmeth_ok I1 ea c hm l ?_
  exact PySem.W.callWith_K0 (first:=[.ref a]) I1.kIn hm.kp (run_fn (us:=[.ref a]) (vs:=[.ref a]) F hr hb hd hx I1 (.cons rfl .nil) q)

structure Mk (K:PySem.W.Frag) (C f:Addr):Prop where
  makes:PySem.W.makesIn K C=true
  init:PySem.W.findIn K (.ref C) "__init__"=some (some (.ref f))
  fn:PySem.W.isFn K (.ref f)=true
  kp:PySem.W.keepIn K (.ref C)=true

theorem run_make {pins:List (Addr×Obj)} {σ:St} {H:Hp} {s:Shared} {Q:VK} {us:List Value} {vs:List V} (M:Mk X.K C f) (F:FnOk X.prog X.w X.K X.mg X.base CX k f fd ps sp) (hr:Room (k + 1) X.A) (hb:Binds X.K fd ps ds) (hd:Vals dvs ds)
    (hx:Passes CX X E) (I:Inv X pins σ H s) (r:Vals vs us)
    (h:∀ x dx,H x=none→H dx=none→dx≠x→sp (.ref x :: (vs++dvs)) (upd (upd H dx (.own x)) x (.ins C dx [])) (fun v H2=>v = .non∧Q (.ref x) H2) E) :
    wpAny (model X.prog X.w) X.A (call (.ref C) us) (EP X pins σ Q) X.xe s:=by
  have hq:=h (s.heap.objs.size + 1) s.heap.objs.size (I.hok.fresh (Nat.le_succ _)) (I.hok.fresh (Nat.le_refl _)) (Nat.ne_of_lt (Nat.lt_succ_self _))
  have I2:=Inv.made (C:=C) I
  have r2:Vals (V.ref (s.heap.objs.size + 1) :: (vs++dvs)) (Value.ref (s.heap.objs.size + 1) :: (us++ds)) := .cons rfl (r.append hd)
  have hl:(Value.ref (s.heap.objs.size + 1) :: us++ds).length=ps.length:=by
    have e:=r2.length
    rw [F.len _ _ _ _ hq] at e
    exact e.symm
  refine wpAny_call (make_map (f:=f) I.kIn M.makes M.init (beq_iff_eq.mp M.fn) (codeAny_mono (F.run _ X.stack _ _ ⟨Value.ref (s.heap.objs.size + 1) :: us,[]⟩ (Value.ref (s.heap.objs.size + 1) :: (us++ds)) _ _ E (hr.make C us [])
    (I2.env0.make C us []) (hb _ (Value.ref (s.heap.objs.size + 1) :: us) I2.kIn hl) r2 hq) fun r s' hq' => ?_))
  cases r with
  | error e=>exact hx pins σ _ _ e s' I2 hq'
  | ok fl =>
    cases fl with
    | ret u =>
      refine xq fun _ kq=>?_
      refine x2_4 (I2.after hq') fun v H' I3 rv ev q3 => ?_
      apply kq
      subst ev
      exact ⟨rv,⟨V.ref (s.heap.objs.size + 1),H',I3,rfl,q3⟩⟩
    | next=>exact False.elim hq'
    | brk=>exact False.elim hq'
    | cont=>exact False.elim hq'
theorem pe_make (M:Mk X.K C f) (F:FnOk X.prog X.w X.K X.mg X.base CX k f fd ps sp) (hr:Room (k + 1) X.A) (hg:Gl X x) (hm:X.mg x=some (.ref C)) (hb:Binds X.K fd ps ds) (hd:Vals dvs ds) (hx:Passes CX X E)
    (ha:PA X (e :: es) t) (hdb:(x==("__debug__":Str))=false:=by decide) (he:starEach (e :: es) X.env=(false,eval e X.env) :: starEach es X.env:=by rfl) (hpl:(backTo pos (starEach es X.env)).any (·.1)=false:=by rfl) :
    PE X (.Call (.Name x p) (e :: es) [] pos) (tMake C sp dvs E t):=by
  intro pins s σ H Q I h
  refine wpAny_Call_Name_kw (ld_glob I hg hm ?_ hdb)
  refine PySem.W.callWith_K (h₀:=X.base) I.ok.mod.kin M.kp (thn (ha pos pins s σ H _ I h) fun us s1 hq9=>x2_3 hq9 fun vs H1 I1 r q=>⟨I1.kIn,?_⟩) he hpl
  exact run_make M F hr hb hd hx I1 r q
end

noncomputable def PK (X:Cx) (kws:List Keyword) (t:TA):Prop :=
  ∀ (pos:Pos) (pins:List (Addr×Obj)) (s:Shared) (σ:St) (H:Hp) (Q:List V→Hp→Prop),Inv X pins σ H s→t σ H Q→wpAny (model X.prog X.w) X.A (evalAll ((backToKw pos (keywordEach kws X.env)).map (·.2))) (AP X pins σ Q) X.xe s
section
variable {X:Cx} {CX:CXT} {k:Nat} {f C:Addr} {fd:FuncData} {ps ks:List Str} {sp:Sp} {E:XK} {x m:Str} {p pos apos kpos:Pos} {e o:Expr} {es:List Expr} {kws:List Keyword} {te ta:TE} {t tk:TA} {nm:Option Str}
structure KBinds (K:PySem.W.Frag) (fd:FuncData) (ps ks:List Str) (g:List Value→List Value→List Value) (gV:List V→List V→List V):Prop where
  to:∀ (s:Shared) (us ws:List Value),K.In s.heap→(g us ws).length=ps.length→BindsTo s fd ⟨us,ks.zip ws⟩ (ps.zip (g us ws))
  rel:∀ {vs:List V} {us:List Value} {zs:List V} {ws:List Value},Vals vs us→Vals zs ws→Vals (gV vs zs) (g us ws)
noncomputable def tCallK (sp:Sp) (gV:List V→List V→List V) (E:XK) (t tk:TA):TE:=fun σ H Q=>t σ H fun vs H1=>tk σ H1 fun zs H2=>sp (gV vs zs) H2 Q E
variable {g:List Value→List Value→List Value} {gV:List V→List V→List V}
end

structure FnScope (N P:List Str) (sc:Scope):Prop where
  kind:sc.kind = .function
  co:sc.isCoroutine=false
  gen:sc.isGenerator=false
  nd:N.Nodup
  pre:N.take P.length=P
  par:∀ x∈P,sc.names.lookup x=some .local∨sc.names.lookup x=some .cell
  nofree:∀ y∈sc.names,y.2 ≠ .free

theorem bindL_out {kindOf:Str→Option NameKind} {x:Str}:∀ {binds:List (Str×Value)} {m:Str→Option Value},(∀ v,(x,v)∉binds)→bindL kindOf binds m x=m x
  | [],_,_=>rfl
  | (n,v) :: r,m,h=>by
    unfold bindL
    rw [bindL_out fun w hw=>h w (List.mem_cons_of_mem _ hw)]
    split
    · have:x≠n:=by rintro rfl;exact h v List.mem_cons_self
      simp [this]
    · rfl
theorem bindC_out {kindOf:Str→Option NameKind} {x:Str}:∀ {binds:List (Str×Value)} {m:Str→Option Value},(∀ v,(x,v)∉binds)→bindC kindOf binds m x=m x
  | [],_,_=>rfl
  | (n,v) :: r,m,h=>by
    unfold bindC
    rw [bindC_out fun w hw=>h w (List.mem_cons_of_mem _ hw)]
    split
    · rfl
    · have:x≠n:=by rintro rfl;exact h v List.mem_cons_self
      simp [this]
theorem bindL_get {kindOf:Str→Option NameKind} {x:Str} {v:Value}:∀ {P:List Str} {vs:List Value} {i:Nat} {m:Str→Option Value},P.Nodup→P[i]?=some x→vs[i]?=some v→kindOf x=some .local →
    bindL kindOf (P.zip vs) m x=some v
  | [],_,_,_,_,h,_,_=>by simp at h
  | _ :: _,[],_,_,_,_,h,_=>by simp at h
  | p :: P,w :: vs,0,m,nd,h1,h2,hk=>by
    simp at h1 h2;subst h1;subst h2
    show bindL kindOf ((p,w) :: P.zip vs) m p=_
    unfold bindL
    rw [bindL_out fun v hv=>(List.nodup_cons.mp nd).1 (List.of_mem_zip hv).1,if_pos hk]
    simp
  | p :: P,w :: vs,i + 1,m,nd,h1,h2,hk=>by
    show bindL kindOf ((p,w) :: P.zip vs) m x=_
    unfold bindL
    exact bindL_get (i:=i) (List.nodup_cons.mp nd).2 (by simpa using h1) (by simpa using h2) hk
theorem bindC_get {kindOf:Str→Option NameKind} {x:Str} {v:Value}:∀ {P:List Str} {vs:List Value} {i:Nat} {m:Str→Option Value},P.Nodup→P[i]?=some x→vs[i]?=some v→kindOf x≠some .local →
    bindC kindOf (P.zip vs) m x=some v
  | [],_,_,_,_,h,_,_=>by simp at h
  | _ :: _,[],_,_,_,_,h,_=>by simp at h
  | p :: P,w :: vs,0,m,nd,h1,h2,hk=>by
    simp at h1 h2;subst h1;subst h2
    show bindC kindOf ((p,w) :: P.zip vs) m p=_
    unfold bindC
    rw [bindC_out fun v hv=>(List.nodup_cons.mp nd).1 (List.of_mem_zip hv).1,if_neg hk]
    simp
  | p :: P,w :: vs,i + 1,m,nd,h1,h2,hk=>by
    show bindC kindOf ((p,w) :: P.zip vs) m x=_
    unfold bindC
    exact bindC_get (i:=i) (List.nodup_cons.mp nd).2 (by simpa using h1) (by simpa using h2) hk

noncomputable def start (N:List Str) (vs:List V):St:=vs.map some++List.replicate (N.length - vs.length) none

noncomputable def cxOf (CX:CXT) (P:Program) (w:World) (K:PySem.W.Frag) (mg:Str→Option Value) (base:Heap) (N:List Str) (qual:Str) (scope:Scope) (f:Addr) (cd:Value) (A:Around) (outer:List Env) (s:Shared) (H:Hp) (E:XK):Cx where
  prog:=P
  w:=w
  K:=K
  mg:=mg
  base:=base
  A:=A.deeper (envOfC qual scope s.heap.objs.size f cd)
  N:=N
  s₀:=s
  H₀:=H
  env:=envOfC qual scope s.heap.objs.size f cd
  outer:=outer
  stack:=envOfC qual scope s.heap.objs.size f cd :: outer
  ex:=[]
  calm:=true
  fn:=fun _=>true
  pn:=[]
  xe:=fun e s'=>wpAny (model P w) (A.deeper (envOfC qual scope s.heap.objs.size f cd)) (leaving (envOfC qual scope s.heap.objs.size f cd) e) (fun _ s''=>CX outer H s E e s'') (fun e' s''=>CX outer H s E e' s'') s'

theorem cell_has {sc:Scope} {n:Nat} {x:Str} (h:sc.names.lookup x=some .cell):∃ c,(cellsFrom n sc.names []).lookup x=some c:=by
  have q:=PySem.W.cellsFrom_some sc.names n [] (.inl h)
  exact Option.isSome_iff_exists.mp q

theorem inv_start {CX:CXT} {P:Program} {w:World} {K:PySem.W.Frag} {mg:Str→Option Value} {base:Heap} {N ps:List Str} {qual:Str} {scope:Scope} {f:Addr} {cd:Value} {A:Around} {outer:List Env} {s s1:Shared} {H:Hp} {E:XK} {us:List Value} {vs:List V}
    (S:FnScope N ps scope) (hd:A.handled=none) (e0:Env0 P w K mg base A outer s H) (hl:vs.length=ps.length) (r:Vals vs us)
    (x:InCallC s s.heap.objs.size (bindL (envOfC qual scope s.heap.objs.size f cd).kindOf (ps.zip us) fun _=>none) (cellsFrom (s.heap.objs.size + 1) scope.names []) (bindC (envOfC qual scope s.heap.objs.size f cd).kindOf (ps.zip us) fun _=>none) s1) :
    Inv (cxOf CX P w K mg base N qual scope f cd A outer s H E) [] (start N vs) H s1:=by
  have hpl:ps.length≤N.length:=by have:=congrArg List.length S.pre;rw [List.length_take] at this;omega
  refine xq fun _ kq=>?_
  refine x2_2 (x.done) fun h1 tk zq1 hk => ?_
  obtain rfl:=zq1
  apply kq
  have noA:∀ b:Addr,b∉(cxOf CX P w K mg base N qual scope f cd A outer s H E).ex:=fun b z=>absurd (show b∈([]:List Addr) from z) (by simp)
  refine ⟨⟨e0.mod,S.kind,rfl,rfl,Nat.le_refl _,fun y z c h1 h2 => ?_,fun y hy => ?_,fun y c _ h => ?_,fun _=>hd,Around.frames_deeper e0.frames,.inr ⟨rfl,rfl⟩,fun b z=>absurd z (noA b),e0.bs,e0.bsz,fun b _ _=>noA b,fun b z=>absurd z (noA b),e0.funs,e0.frf⟩,
    rfl,e0.bare,Un.kept hk,⟨_,x.toInCall.ns,fun i y v h1 h2 h3 => ?_⟩,fun y c h=>⟨_,x.cell y c h⟩,e0.hok.fresh (Nat.le_refl _),fun y c h => ?_,fun p hp=>absurd (show p∈([]:List (Addr×Obj)) from hp) (by simp),e0.hok.kept hk,?_⟩
  · exact name_of_addr x.apart (PySem.mem_of_lookup h1) (PySem.mem_of_lookup h2)
  · have hy:scope.names.lookup y=some .cell∨scope.names.lookup y=some .free:=hy
    rcases hy with hy | hy
    · exact cell_has hy
    · exact absurd rfl (S.nofree _ (PySem.mem_of_lookup hy))
  · exact Nat.le_of_lt (x.above y c (PySem.mem_of_lookup h))
  · have hi:i < vs.length:=by
      unfold start at h2
      by_cases hi:i < vs.length
      · exact hi
      · rw [List.getElem?_append_right (by simpa using hi)] at h2
        rw [List.getElem?_replicate] at h2
        split at h2 <;> cases h2
    have ha:vs[i]?=some v:=by
      unfold start at h2
      rw [List.getElem?_append_left (by simpa using hi),List.getElem?_map] at h2
      cases e:vs[i]? with
      | none=>rw [e] at h2;cases h2
      | some a=>rw [e] at h2;cases h2;rfl
    refine x1_2 (r.get ha) fun u hu rv => ?_
    have hp:ps[i]?=some y:=by
      rw [← S.pre,List.getElem?_take_of_lt (by omega)];exact h1
    have ndP:ps.Nodup:=by rw [← S.pre];exact S.nd.sublist (List.take_sublist _ _)
    refine ⟨u,rv,?_⟩
    rcases S.par y (List.mem_of_getElem? hp) with k | k
    · exact .inl ⟨k,bindL_get ndP hp hu k⟩
    · obtain ⟨c,e⟩:=cell_has (n:=s.heap.objs.size + 1) k
      refine .inr ⟨.inl k,c,e,?_⟩
      have q:=x.cell y c e
      rw [bindC_get ndP hp hu (by show scope.names.lookup y≠_;rw [k];decide)] at q
      exact q
  · exact e0.hok.fresh (Nat.le_of_lt (x.above y c (PySem.mem_of_lookup h)))
  · unfold start
    show _=N.length
    rw [List.length_append,List.length_map,List.length_replicate]
    omega

theorem fn_of {CX:CXT} {P:Program} {w:World} {K:PySem.W.Frag} {mg:Str→Option Value} {base:Heap} {k:Nat} {f:Addr} {name qual:Str} {params:Arguments} {body:List Stmt} {scope:Scope} {dV kV doc pm cdv ct oc:Value} {an od:Option Addr}
    {osl:Array (Option Value)} {N ps:List Str} {sp:Sp} (lk:K.lookup f=some ⟨oc,od,.func (PySem.W.fnOf name qual params body scope dV kV doc pm an cdv ct),osl⟩) (hcd:PySem.W.codeIn K cdv qual=true) (S:FnScope N ps scope)
    (len:∀ vs H Q E,sp vs H Q E→vs.length=ps.length)
    (hbody:∀ (A:Around) (outer:List Env) (s:Shared) (H:Hp) (vs:List V) (Q:VK) (E:XK),Room k (A.deeper (envOfC qual scope s.heap.objs.size f cdv))→sp vs H Q E →
      ∃ t,PSs (cxOf CX P w K mg base N qual scope f cdv A outer s H E) body t∧t { nx:=fun _ H'=>Q .non H',rt:=Q } (start N vs) H) :
    FnOk P w K mg base CX (k + 1) f (PySem.W.fnOf name qual params body scope dV kV doc pm an cdv ct) ps sp:=by
  refine ⟨len,fun A outer s H args us vs Q E hr e0 hb r hsp => ?_⟩
  have hl:=len _ _ _ _ hsp
  have KX:K.In s.heap:=e0.mod.kin.keeps fun b o e=>(e0.bs b o e).1
  have lim:s.heap.NoLimit:=e0.mod.nolimit.keeps fun b o e=>(e0.bs b o e).1
  have hkind:∀ y∈ps.zip us,scope.names.lookup y.1=some .local∨(scope.names.lookup y.1=some .cell∧((cellsFrom (s.heap.objs.size + 1) scope.names []).lookup y.1).isSome=true):=fun ⟨n,v⟩ hy=>by
    rcases S.par n (List.of_mem_zip hy).1 with q | q
    · exact .inl q
    · exact .inr ⟨q,PySem.W.cellsFrom_some _ _ _ (.inl q)⟩
  refine codeAny_call_function hr.depth (KX _ _ lk) rfl S.co S.gen rfl (PySem.W.codeRec_of KX hcd) (hb _ _ _ _ ?_)
  refine wpAny_newFunctionEnv_cells S.kind hkind fun env he s1 x => ?_
  subst he
  refine ⟨lim.keeps x.toInCall.keep,codeAny_func ?_⟩
  refine x1_2 (hbody A outer s H vs Q E (hr.deeper _) hsp) fun t ht hq => ?_
  have I:Inv (cxOf CX P w K mg base N qual scope f cdv A outer s H E) [] (start N vs) H s1:=inv_start S hr.hd e0 hl r x
  refine wpAny_mono (ht [] s1 (start N vs) H _ I hq) (fun fl s' hs => ?_) fun e s' hs=>hs
  have fin:∀ {σ':St} {H':Hp} {v:V} {u:Value},Inv (cxOf CX P w K mg base N qual scope f cdv A outer s H E) [] σ' H' s'→RelV v u→Q v H'→CE outer P w H s Q u s' :=
    fun {σ' H' v u} J rv q=>⟨v,H',J.os,J.bare,J.base,J.hok,rv,q⟩
  cases fl with
  | ret u =>
    refine xq fun _ kq=>?_
    refine x3_3 (hs) fun v σ' H' J rv q => ?_
    apply kq
    exact fin J rv q
  | next =>
    refine xq fun _ kq=>?_
    refine x2_2 (hs) fun σ' H' J q => ?_
    apply kq
    exact fin (v:=V.non) (u:=Value.none) J rfl q
  | brk =>
    refine xq fun _ kq=>?_
    refine x2_2 (hs) fun _ _ _ q => ?_
    apply kq
    exact False.elim q
  | cont =>
    refine xq fun _ kq=>?_
    refine x2_2 (hs) fun _ _ _ q => ?_
    apply kq
    exact False.elim q
end L2

namespace L2
open PySem PySem.Spec PyProof.Rows
section
variable {X:Cx} {x:Str} {p pos:Pos} {e:Expr} {es:List Expr} {t:TA} {id T:String} {r:List V→Hp→VK→Prop}

noncomputable def tCB (r:List V→Hp→VK→Prop) (t:TA):TE:=fun σ H Q=>t σ H fun vs H1=>r vs H1 Q
theorem pe_callB (hc:CallR X (.builtin id) r) (hg:Gl X x) (hm:X.mg x=none) (hv:bootBuiltins x=some (.builtin id)) (ha:PA X (e :: es) t) (hn:x ≠ "__name__":=by decide) (hdb:(x==("__debug__":Str))=false:=by decide)
    (he:starEach (e :: es) X.env=(false,eval e X.env) :: starEach es X.env:=by rfl) (hpl:(backTo pos (starEach es X.env)).any (·.1)=false:=by rfl):PE X (.Call (.Name x p) (e :: es) [] pos) (tCB r t):=by
  intro pins s σ H Q I h
  refine wpAny_Call_Name_kw (ld_blt I hg hm hv ?_ hn hdb)
  exact PyProof.Rows.callWith_builtin1 (thn (ha pos pins s σ H _ I h) fun us s1 hq9=>x2_3 hq9 fun vs H1 I1 r1 q1=>hc pins s1 σ H1 vs us Q I1 r1 q1) he hpl
theorem pe_callTy (hc:CallR X (.type T) r) (hg:Gl X x) (hm:X.mg x=none) (hv:bootBuiltins x=some (.type T)) (ha:PA X (e :: es) t) (hn:x ≠ "__name__":=by decide) (hdb:(x==("__debug__":Str))=false:=by decide)
    (he:starEach (e :: es) X.env=(false,eval e X.env) :: starEach es X.env:=by rfl) (hpl:(backTo pos (starEach es X.env)).any (·.1)=false:=by rfl):PE X (.Call (.Name x p) (e :: es) [] pos) (tCB r t):=by
  intro pins s σ H Q I h
  refine wpAny_Call_Name_kw (ld_blt I hg hm hv ?_ hn hdb)
  exact PyProof.Rows.callWith_type1 (thn (ha pos pins s σ H _ I h) fun us s1 hq9=>x2_3 hq9 fun vs H1 I1 r1 q1=>hc pins s1 σ H1 vs us Q I1 r1 q1) he hpl
end
end L2

namespace HT
open PySem PyProof.Rows

noncomputable def lexLt:List Int→List Int→Bool
  | [],[]=>false
  | [],_ :: _=>true
  | _ :: _,[]=>false
  | x :: xs,y :: ys=>if x=y then lexLt xs ys else decide (x < y)
section
open PySem.SeqAt
open PySem.AutoSeq1 (wpAny_loadPart')
open PySem.MeetsSeq PySem.MeetsSeq2 PySem.MeetsSeq3

end

section
variable {prog:Program} {w:World} {A:Around} {E:Value→Shared→Prop} {s:Shared}

noncomputable def sIx (n d:Nat):Option Int→Nat
  | none=>d
  | some v=>if v < 0 then (v + (n:Int)).toNat else min v.toNat n
end
end HT

namespace L2
open PySem PySem.Spec PyProof.Rows

noncomputable abbrev TO:=St→Hp→(Option Int→Hp→Prop)→Prop
noncomputable def PO (X:Cx) (e:Option Expr) (t:TO):Prop :=
  ∀ (pins:List (Addr×Obj)) (s:Shared) (σ:St) (H:Hp) (Q:Option Int→Hp→Prop),Inv X pins σ H s→t σ H Q →
    wpAny (model X.prog X.w) X.A (evalPart e X.env) (fun u s'=>∃ o H',Inv X pins σ H' s'∧IsPart u o∧Q o H') X.xe s
noncomputable def tNoPart:TO:=fun _ H Q=>Q none H
noncomputable def tPart (t:TE):TO:=fun σ H Q=>t σ H fun x H1=>∃ i,x = .int i∧Q (some i) H1

theorem intsAre_of {ns:List Int}:∀ {us:List Value},Vals (ns.map V.int) us→IntsAre us ns:=by
  induction ns with
  | nil=>intro us r;rw [List.map_nil] at r;cases r;exact .nil
  | cons n ns ih =>
    intro us r
    rw [List.map_cons] at r
    cases r with
    | cons r1 r2 =>
      obtain ⟨t,e⟩:=r1
      subst e
      exact .cons n t (ih r2)

section
variable {X:Cx} {e:Expr} {te:TE} {lo hi:Option Expr} {tl th:TO} {pos p2:Pos}

theorem po_some (h:PE X e te):PO X (some e) (tPart te):=by
  intro pins s σ H Q I hw
  rw [evalPart_some]
  refine thn (h pins s σ H _ I hw) fun u s1 hq9=>x2_3 hq9 fun x H1 I1 r1 q1 => ?_
  refine xq fun _ kq=>?_
  refine x1_2 (q1) fun i zq1 q => ?_
  obtain rfl:=zq1
  obtain ⟨t,rfl⟩:=r1
  apply kq
  exact ⟨some i,H1,I1,.int i t,q⟩

noncomputable def SlR (X:Cx) (r:V→Option Int→Option Int→Hp→VK→Prop):Prop :=
  ∀ (pins:List (Addr×Obj)) (s:Shared) (σ:St) (H:Hp) (x:V) (v vl vu:Value) (lo hi:Option Int) (sl:Addr) (Q:VK),Inv X pins σ H s→RelV x v→s.heap.IsSliceOf sl vl vu .none→IsPart vl lo→IsPart vu hi→r x lo hi H Q →
    ∃ T id,typeLookup (.type T) "__getitem__"=pure (some (.builtin id))∧s.TypeIs v T∧wpAny (model X.prog X.w) X.A (getItem v (.ref sl)) (EP X pins σ Q) X.xe s
theorem SlR.or {r r':V→Option Int→Option Int→Hp→VK→Prop} (h:SlR X r) (h':SlR X r'):SlR X (fun x lo hi H Q=>r x lo hi H Q∨r' x lo hi H Q):=by
  intro pins s σ H x v vl vu lo hi sl Q I rx hs pl pu q
  rcases q with q | q
  · exact h pins s σ H x v vl vu lo hi sl Q I rx hs pl pu q
  · exact h' pins s σ H x v vl vu lo hi sl Q I rx hs pl pu q
noncomputable def tSl (r:V→Option Int→Option Int→Hp→VK→Prop) (te:TE) (tl th:TO):TE:=fun σ H Q=>te σ H fun x H1=>tl σ H1 fun l H2=>th σ H2 fun u H3=>r x l u H3 Q
theorem pe_slice {r:V→Option Int→Option Int→Hp→VK→Prop} (hr:SlR X r) (he:PE X e te) (hl:PO X lo tl) (hu:PO X hi th):PE X (.Subscript e (.Slice lo hi none p2) pos) (tSl r te tl th):=by
  intro pins s σ H Q I h
  refine Subscript_ (thn (he pins s σ H _ I h) fun v s1 hq9=>x2_3 hq9 fun x H1 I1 r1 q1 => ?_)
  refine wpAny_Slice (thn (hl pins s1 σ H1 _ I1 q1) fun vl s2 hq9=>x2_3 hq9 fun l H2 I2 pl q2=>thn (hu pins s2 σ H2 _ I2 q2) fun vu s3 hq9=>x2_3 hq9 fun u H3 I3 pu q3 => ?_)
  rw [evalPart_none]
  refine wpAny_pure ?_
  have I4:Inv X pins σ H3 { s3 with heap:=s3.heap.push { cls := .type "slice",data := .fields #[vl,vu,.none] } }:=I3.kept (t':=s3.toks) fun b ob q=>Heap.get?_push_of_some _ q
  refine xq fun _ kq=>?_
  refine x2_3 (hr pins { s3 with heap:=s3.heap.push { cls := .type "slice",data := .fields #[vl,vu,.none] } } σ H3 x v vl vu l u s3.heap.objs.size Q I4 r1 (Heap.IsSliceOf.new ..) pl pu q3) fun T id hT ht hg => ?_
  apply kq
  show wpAny (model X.prog X.w) X.A (subscriptTail e (.Slice lo hi none p2) v (.ref s3.heap.objs.size)) (EP X pins σ Q) X.xe { s3 with heap:=s3.heap.push { cls := .type "slice",data := .fields #[vl,vu,.none] } }
  exact tail_any (ops:=[.ref s3.heap.objs.size,v]) ht hT hg (by with_unfolding_all rfl)

noncomputable def cutV (xs:List V) (lo hi:Option Int):List V:=(xs.drop (HT.sIx xs.length 0 lo)).take (HT.sIx xs.length xs.length hi - HT.sIx xs.length 0 lo)
theorem cutV_length (xs:List V) (lo hi:Option Int):(cutV xs lo hi).length≤xs.length:=by
  unfold cutV
  rw [List.length_take,List.length_drop]
  omega
noncomputable def rSlT (K:PySem.W.Frag):V→Option Int→Option Int→Hp→VK→Prop:=fun x lo hi H Q=>∃ a xs,x = .ref a∧SqT K H a xs ∧
  ¬ (HT.sIx xs.length 0 lo=0∧HT.sIx xs.length xs.length hi=xs.length)∧∀ p,H p=none→Q (.ref p) (upd H p (.tup (cutV xs lo hi)))
noncomputable def rLtT (K:PySem.W.Frag):R2:=fun x y H Q=>∃ a b ns ms,x = .ref a∧y = .ref b∧SqT K H a (ns.map V.int)∧SqT K H b (ms.map V.int)∧Q (.bl (HT.lexLt ns ms)) H
noncomputable def rCatT (K:PySem.W.Frag):R2:=fun x y H Q=>∃ a b xs ys,x = .ref a∧y = .ref b∧SqT K H a xs∧SqT K H b ys∧xs≠[]∧xs.length + ys.length≤sizeLine ∧
  (ys=[]→Q (.ref a) H)∧(ys≠[]→∀ p,H p=none→Q (.ref p) (upd H p (.tup (xs++ys))))
end
end L2

namespace L2
open PySem PySem.Spec PyProof.Rows

noncomputable def ixN (n:Nat) (i:Int):Option Nat:=if 0≤i then (if i < n then some i.toNat else none) else if -(n:Int)≤i then some (i + n).toNat else none
noncomputable def atI {α:Type} (xs:List α) (i:Int):Option α:=(ixN xs.length i).bind fun j=>xs[j]?
theorem ixN_seq {n:Nat} {i:Int} {j:Nat} (h:ixN n i=some j):seqIndex? i n=some j∧j < n ∧ -(n:Int)≤i∧i < n:=by
  unfold ixN at h
  by_cases h0:0≤i
  · rw [if_pos h0] at h
    by_cases h1:i < n
    · rw [if_pos h1] at h
      have e:i.toNat=j:=Option.some.inj h
      exact ⟨by rw [seqIndex_of h0 h1,e],by omega,by omega,h1⟩
    · rw [if_neg h1] at h;cases h
  · rw [if_neg h0] at h
    by_cases h1 : -(n:Int)≤i
    · rw [if_pos h1] at h
      have e:(i + n).toNat=j:=Option.some.inj h
      exact ⟨by rw [seqIndex_neg (by omega) h1,e],by omega,h1,by omega⟩
    · rw [if_neg h1] at h;cases h
theorem atI_get {α:Type} {xs:List α} {i:Int} {v:α} (h:atI xs i=some v):∃ j,seqIndex? i xs.length=some j∧xs[j]?=some v∧j < xs.length ∧ -(xs.length:Int)≤i∧i < xs.length:=by
  unfold atI at h
  cases e:ixN xs.length i with
  | none=>rw [e] at h;cases h
  | some j =>
    rw [e] at h
    refine xq fun _ kq=>?_
    refine x0_4 (ixN_seq e) fun h1 h2 h3 h4 => ?_
    apply kq
    exact ⟨j,h1,h,h2,h3,h4⟩
theorem atI_nat {α:Type} {xs:List α} {j:Nat} {v:α} (h:xs[j]?=some v):atI xs (j:Int)=some v:=by
  have hj:j < xs.length:=(List.getElem?_eq_some_iff.mp h).1
  have e:ixN xs.length (j:Int)=some j:=by
    unfold ixN
    rw [if_pos (by omega),if_pos (by omega)];simp
  unfold atI;rw [e];exact h
theorem atI_last {α:Type} (xs:List α) (v:α):atI (xs++[v]) (-1)=some v:=by
  have hl:(xs++[v]).length=xs.length + 1:=by simp
  have e:ixN (xs++[v]).length (-1)=some xs.length:=by
    unfold ixN
    rw [hl,if_neg (by decide),if_pos (by omega)]
    congr 1
    omega
  unfold atI
  rw [e]
  show (xs++[v])[xs.length]?=some v
  simp

noncomputable def PlainIx (b:Expr):Prop:=∀ o i,subscripted b false o i=operate [o,i] (getItem o i)
noncomputable def IxR (X:Cx) (r:R2):Prop :=
  ∀ (value slice:Expr) (pins:List (Addr×Obj)) (s:Shared) (σ:St) (H:Hp) (x y:V) (v u:Value) (Q:VK),Inv X pins σ H s→RelV x v→RelV y u→r x y H Q →
    subscripted slice false v u=operate [v,u] (getItem v u)→wpAny (model X.prog X.w) X.A (subscriptTail value slice v u) (EP X pins σ Q) X.xe s
noncomputable def MtR (X:Cx) (id:String) (r:V→List V→Hp→VK→Prop):Prop :=
  ∀ (pins:List (Addr×Obj)) (s:Shared) (σ:St) (H:Hp) (x:V) (xs:List V) (v:Value) (us:List Value) (Q:VK),Inv X pins σ H s→RelV x v→Vals xs us→r x xs H Q →
    wpAny (model X.prog X.w) X.A (call (.builtin id) (v :: us)) (EP X pins σ Q) X.xe s
section
variable {X:Cx} {a b:Expr} {ta tb:TE} {pos:Pos}
theorem IxR.or {r r':R2} (h:IxR X r) (h':IxR X r'):IxR X (fun x y H Q=>r x y H Q∨r' x y H Q):=by
  intro value slice pins s σ H x y v u Q I rx ry q hs
  rcases q with q | q
  · exact h value slice pins s σ H x y v u Q I rx ry q hs
  · exact h' value slice pins s σ H x y v u Q I rx ry q hs
theorem MtR.or {id:String} {r r':V→List V→Hp→VK→Prop} (h:MtR X id r) (h':MtR X id r'):MtR X id (fun x xs H Q=>r x xs H Q∨r' x xs H Q):=by
  intro pins s σ H x xs v us Q I rx rs q
  rcases q with q | q
  · exact h pins s σ H x xs v us Q I rx rs q
  · exact h' pins s σ H x xs v us Q I rx rs q
theorem pe_ix {r:R2} (hr:IxR X r) (ha:PE X a ta) (hb:PE X b tb) (hs:PlainIx b):PE X (.Subscript a b pos) (tOp r ta tb):=by
  intro pins s σ H Q I h
  exact Subscript_ (binT ha hb I h fun v u s2 x y H2 I2 rx ry q=>hr a b pins s2 σ H2 x y v u Q I2 rx ry q (hs _ _))

noncomputable def rIxL (K:PySem.W.Frag):R2:=fun x y H Q=>∃ p xs i v,x = .ref p∧y = .int i∧SqL K H p xs∧atI xs i=some v∧Q v H
noncomputable def rIxT (K:PySem.W.Frag):R2:=fun x y H Q=>∃ p xs i v,x = .ref p∧y = .int i∧SqT K H p xs∧atI xs i=some v∧Q v H
noncomputable def rIxS:R2:=fun x y H Q=>∃ z i c,x = .str z∧y = .int i∧z.length≤sizeLine∧atI z.cps.toList i=some c∧Q (.str ⟨#[c]⟩) H
theorem ix_list:IxR X (rIxL X.K):=by
  intro value slice pins s σ H x y v u Q I rx ry h hs
  refine xq fun _ kq=>?_
  refine x4_5 (h) fun p xs i z zq1 zq2 hq he q => ?_
  obtain rfl:=zq1
  obtain rfl:=zq2
  apply kq
  cases rx
  refine xq fun _ kq=>?_
  obtain ⟨t,rfl⟩:=ry
  refine x1_3 (I.list hq) fun its r pl hz => ?_
  refine x1_5 (atI_get he) fun j h1 h2 h3 h4 h5 => ?_
  refine x1_2 (r.get h2) fun w ew rw' => ?_
  apply kq
  have hl:=r.length
  have hn:=line63
  have fin:EP X pins σ Q w s:=⟨z,H,I,rw',q⟩
  by_cases h0:0≤i
  · have hj:i.toNat=j:=by
      rw [seqIndex_of h0 h5] at h1
      exact Option.some.inj h1
    exact item_listR pl.isList h0 (by omega) (by rw [hj];simpa using ew) fin hs
  · have hj:(i + (its.toArray.size:Int)).toNat=j:=by
      rw [seqIndex_neg (by omega) h4] at h1
      rw [List.size_toArray,← hl]
      exact Option.some.inj h1
    exact subscriptTail_builtinR (x:=w) pl.isList.typeIs slot_list_getitem.lookup
      (wpAny_getItem_list_neg (Q:=fun r s'=>r=w∧EP X pins σ Q r s') pl.isList (by omega) (by rw [List.size_toArray] <;> omega) (by omega) (by rw [hj];simpa using ew) ⟨rfl,fin⟩) hs
theorem ix_tup:IxR X (rIxT X.K):=by
  intro value slice pins s σ H x y v u Q I rx ry h hs
  refine xq fun _ kq=>?_
  refine x4_5 (h) fun p xs i z zq1 zq2 hq he q => ?_
  obtain rfl:=zq1
  obtain rfl:=zq2
  apply kq
  cases rx
  refine xq fun _ kq=>?_
  obtain ⟨t,rfl⟩:=ry
  refine x1_3 (I.tuple hq) fun its r pl hz => ?_
  refine x1_5 (atI_get he) fun j h1 h2 h3 h4 h5 => ?_
  refine x1_2 (r.get h2) fun w ew rw' => ?_
  apply kq
  have hl:=r.length
  have hn:=line63
  have fin:EP X pins σ Q w s:=⟨z,H,I,rw',q⟩
  exact subscriptTail_builtinR (x:=w) pl.typeIs slot_tuple_getitem.lookup
    (getItem_tuple (j:=j) (Q:=fun r s'=>r=w∧EP X pins σ Q r s') pl (by omega) (by omega) (by rw [List.size_toArray,← hl];exact h1) (by simpa using ew) ⟨rfl,fin⟩) hs
theorem ix_str:IxR X rIxS:=by
  intro value slice pins s σ H x y v u Q I rx ry h hs
  refine xq fun _ kq=>?_
  refine x3_5 (h) fun z i c zq1 zq2 hz he q => ?_
  obtain rfl:=zq1
  obtain rfl:=zq2
  obtain ⟨t,rfl⟩:=rx
  obtain ⟨t',rfl⟩:=ry
  refine x1_5 (atI_get he) fun j h1 h2 h3 h4 h5 => ?_
  apply kq
  have hl:z.cps.toList.length=z.length:=by simp [Str.length]
  rw [hl] at h1 h4 h5
  have hn:=line63
  exact tail_any (typeIs_str s z t) slot_str_getitem.lookup (getItem_str (c:=c) (by
    have e1:decide (i < -(2 ^ 63:Int))=false:=decide_eq_false (by omega)
    have e2:decide (i ≥ 2 ^ 63)=false:=decide_eq_false (by omega)
    rw [e1,e2,Bool.or_false]) (by rw [h1];simpa using h2) ⟨.str ⟨#[c]⟩,H,I.tok _,⟨_,rfl⟩,q⟩) hs
noncomputable def rIx (K:PySem.W.Frag):R2:=fun x y H Q=>rIxL K x y H Q∨rIxT K x y H Q∨rIxS x y H Q
theorem mapSeq_set (its:List Value) (n j:Nat) (u:Value):Obj.mapSeq (·.setIfInBounds j u) { cls := .type "list",data := .seq its.toArray n }={ cls := .type "list",data := .seq (its.set j u).toArray n }:=by
  simp [Obj.mapSeq]
theorem Inv.lst {pins:List (Addr×Obj)} {σ:St} {H:Hp} {s:Shared} {p:Addr} {xs:List V} (I:Inv X pins σ H s) (h:H p=some (.lst xs)) :
    ∃ (its:List Value) (n:Nat),Vals xs its∧s.heap.get? p=some { cls := .type "list",data := .seq its.toArray n }∧xs.length≤sizeLine:=by
  refine xq fun _ kq=>?_
  obtain ⟨z,its,n,r,e⟩:=I.hok p _ h
  apply kq
  exact ⟨its,n,r,e,z⟩
theorem Inv.lstUpd {pins:List (Addr×Obj)} {σ:St} {H:Hp} {s:Shared} {p:Addr} {xs ys:List V} {its its':List Value} {n n':Nat} {f:Obj→Obj} (I:Inv X pins σ H s) (h:H p=some (.lst xs))
    (ho:s.heap.get? p=some { cls := .type "list",data := .seq its.toArray n }) (hf:f { cls := .type "list",data := .seq its.toArray n }={ cls := .type "list",data := .seq its'.toArray n' }) (r:Vals ys its') (hz:ys.length≤sizeLine) (t:Nat) :
    Inv X pins σ (upd H p (.lst ys)) { s with heap:=s.heap.update p f,toks:=t }:=by
  have e:(s.heap.update p f).get? p=some { cls := .type "list",data := .seq its'.toArray n' }:=by
    rw [Heap.get?_update_self f ho (by rw [hf] <;> rfl),hf]
  refine I.write (x:=p) (e:=p) (by rw [h];trivial) (.inl rfl) (fun b u hb q=>(Heap.get?_update_other _ _ (Ne.symm hb)).trans q) ⟨_,e⟩ ?_
  exact ⟨hz,its',n',r,e⟩
noncomputable def rSetL:V→V→V→Hp→(Hp→Prop)→Prop:=fun o i v H Q=>∃ p xs k j,o = .ref p∧i = .int k∧H p=some (.lst xs)∧ixN xs.length k=some j∧Q (upd H p (.lst (xs.set j v)))
theorem set_list:PSet X rSetL:=by
  intro pins s σ H o i v ov iv u Q I ro ri rv h
  refine xq fun _ kq=>?_
  refine x4_5 (h) fun p xs k j zq1 zq2 hp hj q => ?_
  obtain rfl:=zq1
  obtain rfl:=zq2
  apply kq
  cases ro
  refine xq fun _ kq=>?_
  obtain ⟨t,rfl⟩:=ri
  refine x2_3 (I.lst hp) fun its n r ho hz => ?_
  refine x0_4 (ixN_seq hj) fun h1 h2 h3 h4 => ?_
  apply kq
  have hl:=r.length
  have hn:=line63
  have I':Inv X pins σ (upd H p (.lst (xs.set j v))) { s with heap:=s.heap.update p (Obj.mapSeq (·.setIfInBounds j u)) } :=
    I.lstUpd hp ho (mapSeq_set its n j u) (r.set rv j) (by rw [List.length_set];exact hz) s.toks
  by_cases h0:0≤k
  · have hk:k.toNat=j:=by
      rw [seqIndex_of h0 h4] at h1
      exact Option.some.inj h1
    exact PySem.W.ki_setAt ho h0 (by omega) (by rw [List.size_toArray,← hl];exact h4) (by rw [hk];exact ⟨_,I',q⟩)
  · have hk:(k + (its.toArray.size:Int)).toNat=j:=by
      rw [seqIndex_neg (by omega) h3] at h1
      rw [List.size_toArray,← hl]
      exact Option.some.inj h1
    exact PySem.W.ki_setBack ho (by omega) (by rw [List.size_toArray,← hl];exact h3) (by omega) (by rw [hk];exact ⟨_,I',q⟩)

theorem slice_bounds (lo hi:Option Int) (n:Nat):(sliceBounds lo hi none n).1=((HT.sIx n 0 lo:Nat):Int)∧(sliceBounds lo hi none n).2.1=((HT.sIx n n hi:Nat):Int)∧(sliceBounds lo hi none n).2.2=1:=by
  refine ⟨?_,?_,rfl⟩
  · cases lo with
    | none=>simp [sliceBounds,HT.sIx]
    | some i =>
      simp only [sliceBounds,HT.sIx,Option.getD_none,show (1:Int) > 0 by decide,if_true]
      by_cases h:i < 0
      · simp only [h,if_true] <;> omega
      · simp only [h,if_false] <;> omega
  · cases hi with
    | none=>simp [sliceBounds,HT.sIx]
    | some i =>
      simp only [sliceBounds,HT.sIx,Option.getD_none,show (1:Int) > 0 by decide,if_true]
      by_cases h:i < 0
      · simp only [h,if_true] <;> omega
      · simp only [h,if_false] <;> omega
theorem slicePick_cut (its:List Value) (lo hi:Option Int):slicePick its.toArray lo hi none=((its.drop (HT.sIx its.length 0 lo)).take (HT.sIx its.length its.length hi - HT.sIx its.length 0 lo)).toArray:=by
  refine x0_3 (slice_bounds lo hi its.toArray.size) fun h1 h2 h3 => ?_
  unfold slicePick
  rw [h1,h2,h3]
  simp only [sliceRange_one,pick_run,List.size_toArray] <;> rfl
noncomputable def rSlL (K:PySem.W.Frag):V→Option Int→Option Int→Hp→VK→Prop:=fun x lo hi H Q=>∃ a xs,x = .ref a∧SqL K H a xs∧∀ p,H p=none→Q (.ref p) (upd H p (.lst (cutV xs lo hi)))
theorem sl_list:SlR X (rSlL X.K):=by
  intro pins s σ H x v vl vu lo hi sl Q I rx hs pl pu h
  refine xq fun _ kq=>?_
  refine x2_3 (h) fun a xs zq1 hx q => ?_
  obtain rfl:=zq1
  apply kq
  cases rx
  refine xq fun _ kq=>?_
  refine x1_3 (I.list hx) fun its r ht hz => ?_
  apply kq
  have hlen:=r.length
  refine ⟨"list",_,slot_list_getitem.lookup,ht.isList.typeIs,?_⟩
  refine wpAny_getItem_list_slice ht.isList hs pl pu .none (by simp) ?_ (by rw [List.size_toArray] <;> omega)
  rw [slicePick_cut,← hlen]
  refine ⟨.ref s.heap.objs.size,_,I.laid (t':=s.toks) (o := .lst (cutV xs lo hi)) (fun b ob q=>Heap.get?_push_of_some _ q) (Nat.le_refl _) ?_,rfl,q _ (I.hok.fresh (Nat.le_refl _))⟩
  exact ⟨Nat.le_trans (cutV_length xs lo hi) hz,_,0,(r.drop (HT.sIx xs.length 0 lo)).take (HT.sIx xs.length xs.length hi - HT.sIx xs.length 0 lo),Heap.get?_push_size _ rfl⟩

noncomputable def flatV:V→Bool
  | .non=>true
  | .bl _=>true
  | .int _=>true
  | .str _=>true
  | _=>false
noncomputable def eqV:V→V→Bool
  | .non,.non=>true
  | .bl a,.bl b=>a==b
  | .bl a,.int b=>(if a then 1 else 0)==b
  | .int a,.bl b=>a==(if b then 1 else 0)
  | .int a,.int b=>a==b
  | .str a,.str b=>a==b
  | _,_=>false
noncomputable def eqU (x:V) (u:Value):Bool:=match u with
  | .none=>eqV .non x
  | .bool b=>eqV (.bl b) x
  | .int i _=>eqV (.int i) x
  | .str z _=>eqV (.str z) x
  | _=>false
noncomputable def inV (x:V) (xs:List V):Bool:=xs.any fun y=>eqV y x
noncomputable def rIn (K:PySem.W.Frag) (neg:Bool):R2:=fun x y H Q=>∃ p xs,y = .ref p∧(SqL K H p xs∨SqT K H p xs)∧flatV x=true∧xs.all flatV=true∧Q (.bl (if neg then !inV x xs else inV x xs)) H
theorem CallR.or {f:Value} {r r':List V→Hp→VK→Prop} (h:CallR X f r) (h':CallR X f r'):CallR X f (fun xs H Q=>r xs H Q∨r' xs H Q):=by
  intro pins s σ H xs us Q I rs q
  rcases q with q | q
  · exact h pins s σ H xs us Q I rs q
  · exact h' pins s σ H xs us Q I rs q
theorem call_tuple_of:CallR X (.type "tuple") (fun xs H Q=>∃ p ys,xs=[.ref p]∧((SqL X.K H p ys∧∀ l,H l=none→Q (.ref l) (upd H l (.tup ys)))∨(SqT X.K H p ys∧Q (.ref p) H))):=by
  intro pins s σ H xs us Q I r h
  refine xq fun _ kq=>?_
  obtain ⟨p,ys,rfl,h⟩:=h
  obtain ⟨u,rfl,rx⟩:=vals1 r
  apply kq
  cases rx
  rcases h with ⟨hq,q⟩ | ⟨hq,q⟩
  · refine xq fun _ kq=>?_
    obtain ⟨its,r',pl,hz⟩:=I.list hq
    apply kq
    have hlen:=r'.length
    refine call_tuple_list pl.isList (fun h' kp => ?_) (by simp only [List.size_toArray] <;> omega)
    have I1:Inv X pins σ H { s with heap:=h' }:=I.kept (t':=s.toks) kp
    have I2:Inv X pins σ (upd H h'.objs.size (.tup ys)) { s with heap:=h'.push { cls := .type "tuple",data := .seq its.toArray } } :=
      I1.laid (t':=s.toks) (fun b o e=>Heap.get?_push_of_some _ e) (Nat.le_refl _) (show ObjOk X.prog X.w _ _ _ (.tup ys) from ⟨hz,its,r',IsTup.new _ _⟩)
    exact ⟨.ref h'.objs.size,_,I2,rfl,q _ (I1.hok.fresh (Nat.le_refl _))⟩
  · refine xq fun _ kq=>?_
    obtain ⟨its,r',pl,hz⟩:=I.tuple hq
    apply kq
    exact call_tuple_same pl ⟨.ref p,H,I,rfl,q⟩

noncomputable def tyV (K:PySem.W.Frag) (T:String) (x:V) (H:Hp):Prop:=match x with
  | .str _=>T = "str"
  | .int _=>T = "int"
  | .ref p=>(T = "list"∧∃ xs,SqL K H p xs)∨(T = "tuple"∧∃ o,K.lookup p=some o∧o.cls = .type "tuple"∧o.dict=none) ∨
      (T = "dict"∧((∃ kvs,H p=some (.dK kvs))∨∃ kvs,H p=some (.dT kvs)))∨(T = "set"∧∃ S n,H p=some (.set S n))
  | _=>False
theorem tyV_is {pins:List (Addr×Obj)} {σ:St} {H:Hp} {s:Shared} {T:String} {x:V} {v:Value} (I:Inv X pins σ H s) (r:RelV x v) (ty:tyV X.K T x H) :
    s.TypeIs v T∧∀ a,v = .ref a→∃ ob,s.heap.get? a=some ob∧ob.dict=none:=by
  cases x with
  | str z =>
    obtain ⟨t,rfl⟩:=r
    cases (show T = "str" from ty)
    exact ⟨typeIs_str s z t,fun _ e=>nomatch e⟩
  | int i =>
    obtain ⟨t,rfl⟩:=r
    cases (show T = "int" from ty)
    exact ⟨typeIs_int s i t,fun _ e=>nomatch e⟩
  | ref p =>
    cases r
    rcases ty with ⟨rfl,xs,hq⟩ | ⟨rfl,o,hk,hc,hd⟩ | ⟨rfl,hk⟩ | ⟨rfl,S,n,hk⟩
    · refine xq fun _ kq=>?_
      refine x1_3 (I.list hq) fun its _ pl _ => ?_
      apply kq
      refine ⟨pl.isList.typeIs,fun a e => ?_⟩
      cases e
      refine xq fun _ kq=>?_
      refine x2_4 (pl) fun o n e c hd _ => ?_
      apply kq
      exact ⟨o,e,hd⟩
    · refine ⟨⟨o,I.kIn p o hk,hc⟩,fun a e => ?_⟩
      cases e
      exact ⟨o,I.kIn _ o hk,hd⟩
    · have z:∃ o,s.heap.get? p=some o∧o.ExactDict:=by
        rcases hk with ⟨kvs,hk⟩ | ⟨kvs,hk⟩
        · refine xq fun _ kq=>?_
          obtain ⟨_,_,_,_,o,_,_,e,ex,_⟩:=I.hok p _ hk
          apply kq
          exact ⟨o,e,ex⟩
        · refine xq fun _ kq=>?_
          obtain ⟨_,_,_,_,o,_,_,e,ex,_⟩:=I.hok p _ hk
          apply kq
          exact ⟨o,e,ex⟩
      refine x1_2 (z) fun o e ex => ?_
      refine ⟨⟨o,e,ex.1⟩,fun a e2 => ?_⟩
      cases e2
      exact ⟨o,e,ex.2.1⟩
    · refine xq fun _ kq=>?_
      refine x4_3 (I.hok p _ hk) fun o _ _ _ e ex _ => ?_
      apply kq
      refine ⟨⟨o,e,ex.1⟩,fun a e2 => ?_⟩
      cases e2
      exact ⟨o,e,ex.2.1⟩
  | _=>exact False.elim ty
noncomputable def tBM0 (K:PySem.W.Frag) (T:String) (r:V→List V→Hp→VK→Prop) (to:TE):TE:=fun σ H Q=>to σ H fun x H1=>tyV K T x H1∧r x [] H1 Q
noncomputable def tBM (K:PySem.W.Frag) (T:String) (r:V→List V→Hp→VK→Prop) (to:TE) (t:TA):TE:=fun σ H Q=>to σ H fun x H1=>tyV K T x H1∧t σ H1 fun xs H2=>r x xs H2 Q
variable {o e:Expr} {es:List Expr} {to:TE} {t:TA} {name:Str} {apos cpos:Pos} {T id:String} {r:V→List V→Hp→VK→Prop}
theorem pe_bm0 (pa:PlainAttrs T) (slot:Slot T name id) (hty:typeOf (.builtin id)=pure (.type "method_descriptor")) (hm:MtR X id r) (ho:PE X o to)
    (hbase:attributeBase o name X.env (eval o X.env)=eval o X.env:=by rfl) (hline:(apos.endLine==cpos.line)=true:=by rfl):PE X (.Call (.Attribute o name apos) [] [] cpos) (tBM0 X.K T r to):=by
  intro pins s σ H Q I h
  refine wpAny_Call_method0_late hbase hline (thn (ho pins s σ H _ I h) fun v s1 hq9=>x2_4 hq9 fun x H1 I1 r1 ty q1 => ?_)
  obtain ⟨h1,h2⟩:=tyV_is I1 r1 ty
  exact ⟨T,id,pa,slot,hty,h1,h2,Calls.callWith_builtin rfl (PySem.evalArgs_none (hm pins s1 σ H1 x [] v [] Q I1 r1 .nil q1))⟩
theorem pe_bm (pa:PlainAttrs T) (slot:Slot T name id) (hty:typeOf (.builtin id)=pure (.type "method_descriptor")) (hm:MtR X id r) (ho:PE X o to) (ha:PA X (e :: es) t)
    (hbase:attributeBase o name X.env (eval o X.env)=eval o X.env:=by rfl)
    (hfew:((backTo cpos (starEach (e :: es) X.env)).all (fun x => !x.1)&&(backToKw cpos (keywordEach [] X.env)).all (fun x=>x.1.isSome)
      && decide ((e :: es).length + ([]:List Keyword).length + (if ([]:List Keyword).isEmpty then 0 else 1) < 30))=true:=by rfl)
    (hline:(apos.endLine==cpos.line)=true:=by rfl) (hs:starEach (e :: es) X.env=(false,eval e X.env) :: starEach es X.env:=by rfl) (hplain:(backTo cpos (starEach es X.env)).any (·.1)=false:=by rfl) :
    PE X (.Call (.Attribute o name apos) (e :: es) [] cpos) (tBM X.K T r to t):=by
  intro pins s σ H Q I h
  refine wpAny_Call_method_late hbase hfew hline rfl (thn (ho pins s σ H _ I h) fun v s1 hq9=>x2_4 hq9 fun x H1 I1 r1 ty q1 => ?_)
  obtain ⟨h1,h2⟩:=tyV_is I1 r1 ty
  refine ⟨T,id,pa,slot,hty,h1,h2,?_⟩
  have hA:=ha cpos pins s1 σ H1 _ I1 q1
  rw [hs] at hA ⊢
  refine Calls.callWith_builtin (by show (false||(backTo cpos (starEach es X.env)).any (·.1))=false;rw [hplain] <;> rfl) (Calls.evalArgs_plain ?_)
  exact thn hA fun us s2 hq9=>x2_3 hq9 fun vs H2 I2 r2 q2=>hm pins s2 σ H2 x vs v us Q I2 r1 r2 q2
/- xs.append(e),list.index on a module's tuple .. are MtR facts of 06m -/
end
end L2

namespace L2
open PySem PySem.Spec PyProof.Rows

noncomputable def MtM (X:Cx) (id:String) (r:V→List V→Hp→VK→Prop):Prop :=
  ∀ (pins:List (Addr×Obj)) (s:Shared) (σ:St) (H:Hp) (x:V) (xs:List V) (v:Value) (us:List Value) (Q:VK),Inv X pins σ H s→RelV x v→Vals xs us→r x xs H Q →
    wpAny (model X.prog X.w) X.A (call (.builtin id) (v :: us)) (EP X pins σ Q) X.xe s

theorem Vals.one {x:V} {us:List Value} (h:Vals [x] us):∃ u,us=[u]∧RelV x u:=by
  cases h with | cons r t=>cases t;exact ⟨_,rfl,r⟩
theorem Vals.zero:∀ {us:List Value},Vals [] us→us=[]
  | _,.nil=>rfl
theorem Vals.eraseIdx:∀ {xs:List V} {us:List Value} (i:Nat),Vals xs us→Vals (xs.eraseIdx i) (us.eraseIdx i)
  | _,_,_,.nil => .nil
  | _,_,0,.cons _ t=>t
  | _,_,i + 1,.cons r t => .cons r (Vals.eraseIdx i t)
section
variable {X:Cx} {pins:List (Addr×Obj)} {σ:St} {H:Hp} {s:Shared} {l b:Addr} {xs ys zs:List V}

theorem Inv.lset {its its':List Value} {n:Nat} {f:Array Value→Array Value} {t':Nat} (I:Inv X pins σ H s) (hH:H l=some (.lst xs))
    (e:s.heap.get? l=some { cls := .type "list",data := .seq its.toArray n }) (hf:f its.toArray=its'.toArray) (hv:Vals ys its') (hz:ys.length≤sizeLine) :
    Inv X pins σ (upd H l (.lst ys)) { s with heap:=s.heap.update l (Obj.mapSeq f),toks:=t' }:=by
  have q:=PySem.IsL.update e f
  rw [hf] at q
  refine I.write (x:=l) (e:=l) (by rw [hH];exact trivial) (.inl rfl) (fun b' u hb hu=>(Heap.get?_update_other s.heap (Obj.mapSeq f) (Ne.symm hb)).trans hu) ⟨_,q⟩ ?_
  exact ⟨hz,its',_,hv,q⟩
theorem Inv.lnew {its:List Value} {t':Nat} (I:Inv X pins σ H s) (hv:Vals ys its) (hz:ys.length≤sizeLine) :
    Inv X pins σ (upd H s.heap.objs.size (.lst ys)) { s with heap:=s.heap.push { cls := .type "list",data := .seq its.toArray },toks:=t' } :=
  I.laid (fun _ _ q=>Heap.get?_push_of_some _ q) (Nat.le_refl _) ⟨hz,its,0,hv,Heap.get?_push_size _ rfl⟩
theorem Inv.fresh (I:Inv X pins σ H s):H s.heap.objs.size=none:=I.hok.fresh (Nat.le_refl _)
theorem Inv.lstM (I:Inv X pins σ H s) (hH:H l=some (.lst xs)):xs.length≤sizeLine∧∃ (its:List Value) (n:Nat),Vals xs its∧xs.length=its.length∧s.heap.get? l=some { cls := .type "list",data := .seq its.toArray n }:=by
  refine xq fun _ kq=>?_
  obtain ⟨z,its,n,r,e⟩:=I.hok l _ hH
  apply kq
  exact ⟨z,its,n,r,r.length,e⟩

end

section
variable {X:Cx}

noncomputable def rAppend:V→List V→Hp→VK→Prop:=fun x vs H Q=>∃ l xs y,x = .ref l∧vs=[y]∧H l=some (.lst xs)∧xs.length < sizeLine∧Q .non (upd H l (.lst (xs++[y])))
theorem mt_append:MtM X "list.append" rAppend:=by
  intro pins s σ H x vs v us Q I rx rv h
  refine xq fun _ kq=>?_
  refine x3_5 (h) fun l xs y zq1 zq2 hH hz q => ?_
  obtain rfl:=zq1
  obtain rfl:=zq2
  apply kq
  cases rx
  refine xq fun _ kq=>?_
  refine x1_2 (rv.one) fun u zq1 ru => ?_
  obtain rfl:=zq1
  obtain ⟨z,its,n,r,hl,e⟩:=I.lstM hH
  apply kq
  refine call_meets F.slot_list_append ⟨_,e,rfl⟩ F.entry_list_append (F.args_list_append_2 _ _) (PySem.list_append l its.toArray n u (by rw [List.size_toArray];omega)) ⟨e,?_⟩
  refine ⟨.non,_,I.lset (its':=its++[u]) hH e (by simp) (r.append (.cons ru .nil)) ?_,rfl,q⟩
  rw [List.length_append,List.length_singleton]
  omega

noncomputable def rExtend:V→List V→Hp→VK→Prop:=fun x vs H Q=>∃ l b xs zs,x = .ref l∧vs=[.ref b]∧H l=some (.lst xs)∧H b=some (.lst zs)∧xs.length + zs.length≤sizeLine∧Q .non (upd H l (.lst (xs++zs)))
noncomputable def rPop:V→List V→Hp→VK→Prop:=fun x vs H Q=>∃ l xs y,x = .ref l∧vs=[]∧H l=some (.lst xs)∧xs[xs.length - 1]?=some y∧Q y (upd H l (.lst xs.dropLast))
noncomputable def rPopAt:V→List V→Hp→VK→Prop:=fun x vs H Q=>∃ l xs i k y,x = .ref l∧vs=[.int i]∧H l=some (.lst xs) ∧ -(2 ^ 63)≤i∧i < 2 ^ 63∧seqIndex? i xs.length=some k∧xs[k]?=some y∧Q y (upd H l (.lst (xs.eraseIdx k)))
noncomputable def rReverse:V→List V→Hp→VK→Prop:=fun x vs H Q=>∃ l xs,x = .ref l∧vs=[]∧H l=some (.lst xs)∧Q .non (upd H l (.lst xs.reverse))
noncomputable def rClear:V→List V→Hp→VK→Prop:=fun x vs H Q=>∃ l xs,x = .ref l∧vs=[]∧H l=some (.lst xs)∧Q .non (upd H l (.lst []))
noncomputable def rCat:R2:=fun x y H Q=>∃ l b xs zs,x = .ref l∧y = .ref b∧H l=some (.lst xs)∧H b=some (.lst zs)∧xs.length + zs.length≤sizeLine∧∀ p,H p=none→Q (.ref p) (upd H p (.lst (xs++zs)))
noncomputable def rRep:R2:=fun x y H Q=>∃ l k xs,x = .ref l∧y = .int k∧H l=some (.lst xs) ∧ -(2 ^ 63)≤k∧k < 2 ^ 63∧xs.length * k.toNat≤sizeLine ∧
  ∀ p,H p=none→Q (.ref p) (upd H p (.lst (List.replicate k.toNat xs).flatten))
end

section
variable {prog:Program} {w:World} {A:Around} {E:Value→Shared→Prop} {s:Shared}
end

section
variable {X:Cx}
end
end L2

namespace Att
open PySem PySem.W PySem.Calls PyProof.Rows

theorem ints_of_wellAll {P:Params} {h:Heap}:∀ (ns:List Int) (vs:List Value),WellAll P h vs (ns.map WData.int)→IntsAre vs ns:=by
  intro ns
  induction ns with
  | nil =>
    intro vs w
    rw [List.map_nil] at w
    cases w
    exact .nil
  | cons n ns ih =>
    intro vs w
    rw [List.map_cons] at w
    cases w with
    | cons a b =>
      cases a
      exact .cons _ _ (ih _ b)

theorem script_of {l:OpenLaw} {n:Nat} (hn:l.most=some n) {P:Params} {h:Heap} {args:List WData} {vals:List Value}
    (hpre:l.row.toRowW.claim.pre args=true) (hwl:WellAll P h vals args) :
    ∃ a vs ns,vals=[Value.ref a]∧args=[WData.list (ns.map WData.int)]∧h.get? a=some { cls := .type "list",data := .seq vs.toArray }∧IntsAre vs ns∧ns.length≤n:=by
  have hsh:WShape.hasAll [] args [.list .int]=true:=(pre_splitW hpre).1
  have hc:l.pre.holds [] { args:=args }=true:=(pre_splitW hpre).2
  refine xq fun _ kq=>?_
  refine x2_3 (hasAllW_cons hsh) fun d r zq1 h1 h2 => ?_
  obtain rfl:=zq1
  obtain rfl:=hasAllW_nil h2
  refine x1_2 (hasW_list h1) fun xs zq1 h3 => ?_
  obtain rfl:=zq1
  obtain ⟨ns,rfl⟩:=items_int h3
  apply kq
  have hlen:ns.length≤n:=by
    unfold OpenLaw.pre at hc
    have h4:(WTm.not (.lt (.lit (.int (n:Int))) (.len (.arg 0)))).holds [] { args:=[.list (ns.map .int)] }=true:=by
      have h4:=(holds_andW hc).1
      rw [hn] at h4
      exact h4
    have h5:=condW_of h4 (w_not (w_lt w_lit (w_len_list (w_arg rfl))))
    rw [List.length_map] at h5
    refine Nat.le_of_not_lt fun q => ?_
    have q':(n:Int) < ((ns.length:Nat):Int):=by omega
    first
      | (rw [decide_eq_true q'] at h5;exact absurd h5 (by decide))
      | (simp at h5;omega)
  cases hwl with
  | cons w1 w2 =>
    cases w2
    cases w1 with
    | list ho hall=>exact ⟨_,_,ns,rfl,rfl,ho,ints_of_wellAll ns _ hall,hlen⟩

theorem post_true (l:OpenLaw) (args:List WData):l.row.toRowW.claim.post args (.bool true) args=true :=
  postW_of (r:=l.row.toRowW) (X:=(true==true))
    (show WShape.has [] (.bool true) .bool=true by first | rfl | decide | simp [WShape.has,WShape.arms,WShape.armsAll])
    (show (WTm.eq .res (.lit (.bool true))).value [] { args:=args,res:=some (.bool true),after:=args }=some (.bool (true==true)) from w_eq_bool (w_res rfl) w_lit) rfl

theorem attach_call {l:OpenLaw} {n:Nat} {q:Program} {loose:List Str} {XP:(Str→Option Value)→Heap→Prop} {YP:World→Heap→Prop} {d:DefRec}
    (hn:l.most=some n) (hdf:d.params.defaults=[])
    (call:∀ (w:World) (s₀ s₁:Shared) (mg mb:Str→Option Value) (fa:Addr) (o:Obj) (pm cd doc:Value) (a:Addr) (vs:List Value) (ns:List Int),
      Ground q loose [] XP w s₀ mg mb s₁.heap→YP w s₁.heap →
      s₁.heap.get? fa=some o→o.data = .func (docDef d.name d.params d.body d.scope pm cd doc)→s₁.heap.CodeRec cd d.name→mg d.name=some (.ref fa) →
      s₁.heap.get? a=some { cls := .type "list",data := .seq vs.toArray }→IntsAre vs ns→ns.length≤n→s₁.gens = #[] →
      codeAny (model l.prog w) callerA (.call (.ref fa) ⟨[.ref a],[]⟩) (fun r s'=>r = .ok (.ret (.bool true))∧OldK s₁.heap s'.heap∧s'.os=s₁.os∧AllBare s'.gens) s₁) :
    WalkO q loose XP YP l.row.toRowW d [] (fun f vs=>PySem.call f vs):=by
  intro w s₀ s₁ mg mb G Y fa o pm cd doc dV kV ho hd hcd hD hmg hg args vals as hpre hlay hrd hwl hlo
  refine xq fun _ kq=>?_
  obtain rfl:dV = .none:=Dflts.none hD hdf
  obtain rfl:kV = .none:=Dflts.noKw hD
  refine x3_5 (script_of hn hpre hwl) fun a vs ns zq1 zq2 hobj hints hlen => ?_
  obtain rfl:=zq1
  obtain rfl:=zq2
  apply kq
  refine enter_call (codeAny_mono (call w s₀ s₁ mg mb fa o pm cd doc a vs ns G Y ho (fd_plain hd) hcd hmg hobj hints hlen hg) fun r s' hq => ?_)
  refine xq fun _ kq=>?_
  refine x0_4 (hq) fun zq1 h2 h3 h4 => ?_
  obtain rfl:=zq1
  apply kq
  exact ⟨.inl ⟨.bool true,.bool true,[],rfl,fun _=>rfl,.bool true,post_true l _,fun _=>⟨List.Pairwise.nil,fun _ hm=>(nomatch hm)⟩⟩,h2,h3,h4⟩

section
variable {prog:Program} {w:World} {A:Around} {E:Value→Shared→Prop} {s:Shared} {K:Frag}

noncomputable def noObjs (h:Heap):Heap:={ h with objs := #[] }
noncomputable def ledger (h:Heap) (L d:Addr):List (Addr×Obj):=(List.range h.objs.size).filterMap fun a=>if a=L∨a=d then none else (h.get? a).map fun o=>(a,o)
end
end Att

namespace L2
open PySem PySem.Spec PyProof.Rows

theorem vals_ints:∀ {vs:List Value} {ns:List Int},IntsAre vs ns→Vals (ns.map V.int) vs
  | _,_,.nil => .nil
  | _,_,.cons n t h => .cons ⟨t,rfl⟩ (vals_ints h)

noncomputable def Only (H:Hp):Prop:=∀ b,H b=none∨∃ o xs,H b=some (.frz o (.lst xs))

theorem law_call {P:Program} {w:World} {K:PySem.W.Frag} {mg mb:Str→Option Value} {CX:CXT} {k:Nat} {fa a:Addr} {fd:FuncData} {x:Str} {sp:Sp} {s₁:Shared} {vs:List Value} {ns:List Int}
    (KX:K.In s₁.heap) (hns:s₁.heap.Ns mainGlobals mg) (hb:s₁.heap.Ns builtinsNs mb) (hbb:∀ x:Str,x ≠ "__name__"→mb x=bootBuiltins x) (hlim:s₁.heap.NoLimit) (hg:s₁.gens = #[])
    (ha:s₁.heap.get? a=some { cls := .type "list",data := .seq vs.toArray }) (hi:IntsAre vs ns) (hl:ns.length≤sizeLine) (hr:Room k callerA)
    (F:∀ base:Heap,K.In base→base.Ns mainGlobals mg→FnOk P w K mg base CX k fa fd [x] sp) (hbind:∀ (s:Shared) (u:Value),BindsTo s fd ⟨[u],[]⟩ [(x,u)])
    (hsp:∀ H:Hp,Only H→SqL K H a (ns.map V.int)→sp [.ref a] H (fun v _=>v = .bl true) fun _ _ _=>False)
    (hCX:∀ H e s',CX [] H s₁ (fun _ _ _=>False) e s'→False) :
    codeAny (model P w) callerA (.call (.ref fa) ⟨[.ref a],[]⟩) (fun r s'=>r = .ok (.ret (.bool true))∧OldK s₁.heap s'.heap∧s'.os=s₁.os∧AllBare s'.gens) s₁:=by
  have rv:=vals_ints hi
  have lenV:=hi.length
  -- from an abstract heap in which nothing but the script may be tracked
  have core:∀ H:Hp,Only H→SqL K H a (ns.map V.int)→HOk P w H s₁.heap→(∀ b,H b≠none→b=a)→(H a≠none→K.lookup a=none) →
      codeAny (model P w) callerA (.call (.ref fa) ⟨[.ref a],[]⟩) (fun r s'=>r = .ok (.ret (.bool true))∧OldK s₁.heap s'.heap∧s'.os=s₁.os∧AllBare s'.gens) s₁:=by
    intro H hO hS hok hA hK
    have base_of:∀ {b:Addr} {o:Obj},s₁.heap.get? b=some o→H b=none→(hidT s₁.heap H).get? b=some o:=fun e n=>hidT_get e n
    have noA:∀ {b:Addr} {o:Obj} {es:Array DictEntry} {ep:Nat},s₁.heap.get? b=some o→o.data = .dict es ep→H b=none:=fun {b o es ep} e d=>by
      cases q:H b with
      | none=>rfl
      | some u =>
        have e':b=a:=hA b (by rw [q];simp)
        subst e'
        rw [ha] at e;cases e
        have d':Data.seq vs.toArray _=Data.dict es ep:=d
        cases d'
    have nsK:∀ {b:Addr} {m:Str→Option Value},s₁.heap.Ns b m→(hidT s₁.heap H).Ns b m:=fun {b m} hq9=>x3_3 hq9 fun o es ep e d r=>⟨o,es,ep,base_of e (noA e d),d,r⟩
    have hKb:K.In (hidT s₁.heap H):=fun b o e=>base_of (KX b o e) (by
      cases q:H b with
      | none=>rfl
      | some u =>
        have e':b=a:=hA b (by rw [q];simp)
        subst e'
        rw [hK (by rw [q];simp)] at e;cases e)
    have hM:Mod K mg (hidT s₁.heap H):=⟨hKb,nsK hns,⟨mb,nsK hb,hbb⟩,let ⟨mc,h1,h2⟩:=hlim;⟨mc,nsK h1,h2⟩⟩
    have e0:Env0 P w K mg (hidT s₁.heap H) callerA [] s₁ H:=⟨rfl,hM,fun b o e=>of_hidT e,Nat.le_of_eq (hidT_size _ _),trivial,fun b hb=>absurd (show b∈([]:List Addr) from hb) (by simp),hok,.of_eq hg⟩
    refine codeAny_mono ((F _ hKb (nsK hns)).run callerA [] s₁ H ⟨[.ref a],[]⟩ [.ref a] [.ref a] _ _ hr e0 (hbind s₁ (.ref a)) (.cons rfl .nil) (hsp H hO hS)) fun r s' h => ?_
    cases r with
    | error e=>exact (hCX H e s' h).elim
    | ok fl =>
      cases fl with
      | next=>exact False.elim h
      | brk=>exact False.elim h
      | cont=>exact False.elim h
      | ret u =>
        refine xq fun _ kq=>?_
        refine x2_6 (h) fun v H' os bare un hok' r' q => ?_
        apply kq
        have q':v = .bl true:=q
        subst q'
        obtain rfl:u=Value.bool true:=r'
        refine ⟨rfl,OldK.of_keep fun b o e => ?_,os,bare⟩
        cases q:H b with
        | none=>exact un.keep b o e q (by intro z;exact absurd (show b∈([]:List Addr) from z) (by simp)) (by simp)
        | some u =>
          rcases hO b with z | ⟨ob,xs,z⟩
          · rw [q] at z;cases z
          · have z2:=un.frzs b ob _ z
            obtain ⟨e1,_⟩:=hok b _ z
            obtain ⟨e2,_⟩:=hok' b _ z2
            rw [e] at e1;cases e1
            exact e2
  cases hk:K.lookup a with
  | some o =>
    -- the script is one of the module's own objects
    have e:=KX a o hk
    rw [ha] at e
    cases e
    refine core (fun _=>none) (fun _ => .inl rfl) (.inr ⟨_,vs.toArray,_,hk,rfl,rfl,rfl,by rw [List.size_toArray,lenV];exact hl,by simpa using rv⟩) (fun b u z=>by have z':(none:Option HO)=some u:=z;cases z') (fun b z=>absurd rfl z) fun z=>absurd rfl z
  | none =>
    refine core (fun b=>if b=a then some (.frz { cls := .type "list",data := .seq vs.toArray } (.lst (ns.map V.int))) else none) (fun b => ?_) (.inl (.inr ⟨{ cls := .type "list",data := .seq vs.toArray },if_pos rfl⟩)) (fun b u z => ?_) (fun b z => ?_) fun _=>hk
    · by_cases hb:b=a
      · exact .inr ⟨_,_,if_pos hb⟩
      · exact .inl (if_neg hb)
    · by_cases hb:b=a
      · have z':=(if_pos hb).symm.trans z
        cases z'
        subst hb
        exact ⟨ha,by rw [List.length_map];exact hl,vs,_,rv,ha⟩
      · have z':=(if_neg hb).symm.trans z
        cases z'
    · by_cases hb:b=a
      · exact hb
      · exact absurd (if_neg hb) z
end L2

namespace L2
open PySem PySem.Spec PyProof.Rows

noncomputable abbrev KOf {K:PySem.W.Frag} {h:Heap} (_:K.In h):PySem.W.Frag:=K

theorem walk_of {l:PySem.W.OpenLaw} {n k:Nat} {q:Program} {loose:List Str} {XP:(Str→Option Value)→Heap→Prop} {YP:World→Heap→Prop} {d:DefRec} {K:Params→PySem.W.Frag} {CX:World→CXT} {sp:World→Sp} {x:Str}
    (hn:l.most=some n) (hn2:n≤sizeLine) (hdf:d.params.defaults=[]) (hr:Room k callerA)
    (hY:∀ (w:World) (h:Heap),YP w h→(K w.params).In h)
    (F:∀ (w:World) (mg:Str→Option Value) (fa:Addr) (h:Heap),(K w.params).In h→h.Ns mainGlobals mg→mg d.name=some (.ref fa) →
      ∃ fd:FuncData,(∀ (s:Shared) (u:Value),BindsTo s fd ⟨[u],[]⟩ [(x,u)]) ∧
        ∀ base:Heap,(K w.params).In base→base.Ns mainGlobals mg→FnOk l.prog w (K w.params) mg base (CX w) k fa fd [x] (sp w))
    (hsp:∀ (w:World) (H:Hp) (a:Addr) (ns:List Int),ns.length≤n→Only H→SqL (K w.params) H a (ns.map V.int)→sp w [.ref a] H (fun v _=>v = .bl true) fun _ _ _=>False)
    (hCX:∀ (w:World) (H:Hp) (s:Shared) (e:Value) (s':Shared),CX w [] H s (fun _ _ _=>False) e s'→False) :
    PySem.W.WalkO q loose XP YP l.row.toRowW d [] (fun f vs=>PySem.call f vs):=by
  refine Att.attach_call hn hdf fun w s₀ s₁ mg mb fa o pm cd doc a vs ns G Y ho hd hcd hmg hobj hints hlen hg => ?_
  have KX:=hY w _ Y
  refine x1_2 (F w mg fa _ KX G.T.g hmg) fun fd hb hF => ?_
  exact law_call KX G.T.g G.T.b G.T.builtins G.T.nolimit hg hobj hints (Nat.le_trans hlen hn2) hr hF hb (fun H hO hS=>hsp w H a ns hlen hO hS) fun H e s'=>hCX w H s₁ e s'
end L2

/- THE LAST THEOREM (shape;LID,My.* are yours):
   My.Adr: a structure of the addresses that your layer names (classes,functions);My.Txt K t: a structure (Prop) of the equations over K;
   My.txt_mk:{K} {implicit addresses ..} (e1:nsIn K mainGlobals "law"=some (some (.ref f))) (e2:K.lookup f=some ⟨oc,od,.func (fnOf "law" "law" params body scope dV kV doc pm an cdv ct),sl⟩) (e3:codeIn K cdv "law"=true) ..:∃ t,My.Txt K t

set_option maxRecDepth 100000 in
set_option maxHeartbeats 0 in
theorem PySem.Challenge.cw_LID_holds : PySem.Challenge.rw_LID.Holds := by
  w_on;o_law;k_head;(case hw=>w_witness2)
  k_fill
  refine L2.walk_of (l:=PySem.Challenge.rw_LID) (n:=63) (k:=40) (x := "script") (CX:=fun w => ..) (sp:=fun _=>My.sp_law) rfl (by decide) rfl ⟨rfl,by decide,by decide⟩ (fun w h Y=>PySem.W.kIn_of Y) ?F ?S ?C
  case F =>
    intro w mg fa h KX G hmg
    have T:∃ t,My.Txt (L2.KOf KX) t:=by
      dsimp only [L2.KOf]                          -- K must stand as «<heap const> w.params» for k_is
      refine' My.txt_mk ?e1 ?e2 ?e3 ..
      (case e1=>PySem.W.k_is)                    -- in the order: a name -> its address -> its object -> its parts
      (case e2=>PySem.W.k_is)
      ..
    obtain ⟨t,T⟩:=T
    have e0:=hmg.symm.trans (PySem.W.mg_of KX G T.law)
    cases e0                                       -- fa is the law's own address
    exact ⟨_,fun s u => .of_eq rfl,fun base kb nb=>My.law_fn T kb nb⟩     -- if «.of_eq rfl» comes too early: refine' ⟨_,?b,fun base kb nb=>My.law_fn T kb nb⟩;exact fun s u => .of_eq rfl
  case S=>exact fun w H a ns hl hO hS => ..
  case C=>exact ..
(the tactic k_is has no namespace: write k_is) -/

namespace L2
open PySem PySem.Spec PyProof.Rows

noncomputable def inClass (s:Stmt) (j:Nat):Stmt:=match s with
  | .ClassDef _ _ _ body _ _ _ _ _ _ _=>body.getD j (.Pass ⟨0,0,0,0⟩)
  | _ => .Pass ⟨0,0,0,0⟩
noncomputable def defArgs (s:Stmt):Arguments:=match s with
  | .FunctionDef _ a _ _ _ _ _ _ _ _=>a
  | _=>{ posonlyargs:=[],args:=[],vararg:=none,kwonlyargs:=[],kw_defaults:=[],kwarg:=none,defaults:=[] }
noncomputable def defBody (s:Stmt):List Stmt:=match s with
  | .FunctionDef _ _ b _ _ _ _ _ _ _=>b
  | _=>[]
noncomputable def defScope (s:Stmt):Scope:=match s with
  | .FunctionDef _ _ _ _ _ _ sc _ _ _=>sc
  | _=>{ kind := .function,names:=[],isGenerator:=false,isCoroutine:=false }

noncomputable abbrev CX0:CXT:=fun _ _ _ _ _ _=>False
noncomputable abbrev E0:XK:=fun _ _ _=>False
theorem pass0 {X:Cx}:Passes CX0 X E0:=fun _ _ _ _ _ _ _ h=>h.elim

structure Fun (K:PySem.W.Frag) (x qual:Str) (st:Stmt) (f:Addr) (fd:FuncData):Prop where
  ex:∃ (oc:Value) (od:Option Addr) (kV doc pm:Value) (an:Option Addr) (cdv ct:Value) (osl:Array (Option Value)),
    fd=PySem.W.fnOf x qual (defArgs st) (defBody st) (defScope st) .none kV doc pm an cdv ct∧K.lookup f=some ⟨oc,od,.func fd,osl⟩∧PySem.W.codeIn K cdv qual=true
  kp:PySem.W.keepIn K (.ref f)=true
section
variable {P:Program} {w:World} {K:PySem.W.Frag} {mg:Str→Option Value} {base:Heap}
theorem Fun.ok {x qual:Str} {st:Stmt} {f:Addr} {fd:FuncData} {N ps:List Str} {k:Nat} {sp:Sp} (F:Fun K x qual st f fd) (S:FnScope N ps (defScope st)) (len:∀ vs H Q E,sp vs H Q E→vs.length=ps.length)
    (hbody:∀ (cdv:Value) (A:Around) (outer:List Env) (s:Shared) (H:Hp) (vs:List V) (Q:VK) (E:XK),Room k (A.deeper (envOfC qual (defScope st) s.heap.objs.size f cdv))→sp vs H Q E →
      ∃ t,PSs (cxOf CX0 P w K mg base N qual (defScope st) f cdv A outer s H E).nox (defBody st) t∧t { nx:=fun _ H'=>Q .non H',rt:=Q } (start N vs) H):FnOk P w K mg base CX0 (k + 1) f fd ps sp:=by
  refine xq fun _ kq=>?_
  refine x9_3 (F.ex) fun oc od kV doc pm an cdv ct osl zq1 lk hcd => ?_
  obtain rfl:=zq1
  apply kq
  refine fn_of lk hcd S len fun A outer s H vs Q E hr hsp => ?_
  refine x1_2 (hbody cdv A outer s H vs Q E hr hsp) fun t h q => ?_
  exact ⟨t,h.nox,q⟩
theorem Fun.binds {x qual:Str} {st:Stmt} {f:Addr} {fd:FuncData} {ps:List Str} (F:Fun K x qual st f fd)
    (h:∀ (kV doc pm:Value) (an:Option Addr) (cdv ct:Value) (us:List Value),us.length=ps.length→bindArgs (PySem.W.fnOf x qual (defArgs st) (defBody st) (defScope st) .none kV doc pm an cdv ct) ⟨us,[]⟩=pure (ps.zip us)):Binds K fd ps []:=by
  refine xq fun _ kq=>?_
  refine x9_3 (F.ex) fun oc od kV doc pm an cdv ct osl zq1 lk hcd => ?_
  obtain rfl:=zq1
  apply kq
  exact .all (h kV doc pm an cdv ct)
theorem fun_mk {x qual:Str} {st:Stmt} {f:Addr} {oc:Value} {od an:Option Addr} {osl:Array (Option Value)} {kV doc pm cdv ct:Value} (l:K.lookup f=some ⟨oc,od,.func (PySem.W.fnOf x qual (defArgs st) (defBody st) (defScope st) .none kV doc pm an cdv ct),osl⟩)
    (c:PySem.W.codeIn K cdv qual=true) (k:PySem.W.keepIn K (.ref f)=true):Fun K x qual st f (PySem.W.fnOf x qual (defArgs st) (defBody st) (defScope st) .none kV doc pm an cdv ct):=⟨⟨oc,od,kV,doc,pm,an,cdv,ct,osl,rfl,l,c⟩,k⟩
end
section
variable {X:Cx}
theorem pv (i:Nat) {x:Str} {pos:Pos} (hN:X.N[i]?=some x:=by rfl) (hv:Vis X.env.scope x:=by first | exact Or.inl rfl | exact Or.inr (Or.inl rfl) | exact Or.inr (Or.inr rfl)) (hd:(x==("__debug__":Str))=false:=by decide)
    (hcd:(x==("__classdict__":Str))=false:=by decide):PE X (.Name x pos) (tVar i):=pe_var hN hv hd hcd
end

noncomputable def Same (H H':Hp):Prop:=∀ b o,H b=some o→H' b=some o
theorem Same.refl (H:Hp):Same H H:=fun _ _ h=>h
theorem Same.trans {H H1 H2:Hp} (a:Same H H1) (b:Same H1 H2):Same H H2:=fun c o h=>b c o (a c o h)
theorem Same.free {H H':Hp} (e:Same H H') {l:Addr} (h:H' l=Option.none):H l=Option.none:=by
  cases q:H l with
  | none=>rfl
  | some o =>
    rw [e l o q] at h
    cases h
theorem Same.seq {K:PySem.W.Frag} {H H':Hp} {a:Addr} {xs:List V} (e:Same H H') (h:SqL K H a xs):SqL K H' a xs:=by
  rcases h with (h | ⟨o,h⟩) | h
  · exact .inl (.inl (e _ _ h))
  · exact .inl (.inr ⟨o,e _ _ h⟩)
  · exact .inr h

end L2

set_option Elab.async false
set_option linter.all false
set_option maxRecDepth 100000
noncomputable section
namespace L2.PM
open PySem PySem.Spec PyProof.Rows

noncomputable def clos (env:Env):List (Str×NameKind)→List (Str×Addr)→List (Str×Addr)
  | [],acc=>acc
  | (n,k) :: r,acc=>if k==NameKind.free then clos env r ((n,(env.cells.lookup n).getD 0) :: acc) else clos env r acc

theorem clos_run {env:Env}:∀ (l:List (Str×NameKind)) (acc:List (Str×Addr)),(∀ x∈l,x.2=NameKind.free→∃ c,env.cells.lookup x.1=some c) →
    (forIn l acc fun (x:Str×NameKind) (cs:List (Str×Addr))=>if (x.2==NameKind.free)=true then (do let a ← cellOf env x.1;pure (ForInStep.yield ((x.1,a) :: cs)):Sem _) else pure (ForInStep.yield cs))=(pure (clos env l acc):Sem _)
  | [],acc,_=>rfl
  | (n,k) :: r,acc,h=>by
    have hr:∀ x∈r,x.2=NameKind.free→∃ c,env.cells.lookup x.1=some c:=fun x hx=>h x (List.mem_cons_of_mem _ hx)
    by_cases hk:k=NameKind.free
    · subst hk
      obtain ⟨c,hc⟩:=h (n,NameKind.free) List.mem_cons_self rfl
      have hcell:cellOf env n=pure c:=by unfold cellOf;rw [hc]
      simp only [List.forIn_cons,beq_self_eq_true,if_true,clos,hcell,hc,Option.getD_some]
      rw [show ((pure c:Sem Addr) >>= fun a=>(pure (ForInStep.yield ((n,a) :: acc)):Sem _))=pure (ForInStep.yield ((n,c) :: acc)) from rfl]
      exact clos_run r ((n,c) :: acc) hr
    · have hb:(k==NameKind.free)=false:=by simpa using hk
      simp only [List.forIn_cons,hb,Bool.false_eq_true,if_false,clos]
      exact clos_run r acc hr
theorem closureFor_eq {scope:Scope} {env:Env} (h:∀ x∈scope.names,x.2=NameKind.free→∃ c,env.cells.lookup x.1=some c):closureFor scope env=pure (clos env scope.names []):=by
  have e:=clos_run scope.names [] h
  have f:(fun (x:Str×NameKind) (cs:List (Str×Addr))=>(match x with
      | (name,kind)=>if (kind==NameKind.free)=true then (do let a ← cellOf env name;pure (ForInStep.yield ((name,a) :: cs)):Sem _) else pure (ForInStep.yield cs))) =
      (fun (x:Str×NameKind) (cs:List (Str×Addr))=>if (x.2==NameKind.free)=true then (do let a ← cellOf env x.1;pure (ForInStep.yield ((x.1,a) :: cs)):Sem _) else pure (ForInStep.yield cs)):=by
    funext x cs
    cases x
    rfl
  unfold closureFor
  dsimp only
  rw [f,e]
  rfl
theorem clos_get {env:Env} {x:Str}:∀ (l:List (Str×NameKind)) (acc:List (Str×Addr)),(x,NameKind.free)∈l∨acc.lookup x=env.cells.lookup x→(∀ y∈l,y.2=NameKind.free→∃ c,env.cells.lookup y.1=some c) →
    (clos env l acc).lookup x=env.cells.lookup x
  | [],acc,h,_=>by
    rcases h with h | h
    · cases h
    · exact h
  | (n,k) :: r,acc,h,hc=>by
    have hr:∀ y∈r,y.2=NameKind.free→∃ c,env.cells.lookup y.1=some c:=fun y hy=>hc y (List.mem_cons_of_mem _ hy)
    by_cases hk:k=NameKind.free
    · subst hk
      obtain ⟨c,hcn⟩:=hc (n,NameKind.free) List.mem_cons_self rfl
      have hcn:env.cells.lookup n=some c:=hcn
      simp only [clos,beq_self_eq_true,if_true]
      refine clos_get r _ ?_ hr
      by_cases hx:x=n
      · subst hx
        right
        simp [hcn]
      · have hb:(x==n)=false:=by simpa using hx
        rcases h with h | h
        · rcases List.mem_cons.mp h with h | h
          · injection h with h1 _
            exact absurd h1 hx
          · exact .inl h
        · right
          simp only [List.lookup_cons,hb]
          exact h
    · have hb:(k==NameKind.free)=false:=by simpa using hk
      simp only [clos,hb,Bool.false_eq_true,if_false]
      refine clos_get r acc ?_ hr
      rcases h with h | h
      · rcases List.mem_cons.mp h with h | h
        · injection h with _ h2
          exact absurd h2.symm hk
        · exact .inl h
      · exact .inr h
theorem clos_of {env:Env} {x:Str} {c:Addr}:∀ (l:List (Str×NameKind)) (acc:List (Str×Addr)),(acc.lookup x=some c→env.cells.lookup x=some c)→(∀ y∈l,y.2=NameKind.free→∃ c,env.cells.lookup y.1=some c) →
    (clos env l acc).lookup x=some c→env.cells.lookup x=some c
  | [],acc,h,_,e=>h e
  | (n,k) :: r,acc,h,hc,e=>by
    have hr:∀ y∈r,y.2=NameKind.free→∃ c,env.cells.lookup y.1=some c:=fun y hy=>hc y (List.mem_cons_of_mem _ hy)
    by_cases hk:k=NameKind.free
    · subst hk
      obtain ⟨d,hcn⟩:=hc (n,NameKind.free) List.mem_cons_self rfl
      have hcn:env.cells.lookup n=some d:=hcn
      simp only [clos,beq_self_eq_true,if_true] at e
      refine clos_of r _ (fun q => ?_) hr e
      by_cases hx:x=n
      · subst hx
        simp [hcn] at q
        rw [hcn,q]
      · have hb:(x==n)=false:=by simpa using hx
        simp only [List.lookup_cons,hb] at q
        exact h q
    · have hb:(k==NameKind.free)=false:=by simpa using hk
      simp only [clos,hb,Bool.false_eq_true,if_false] at e
      exact clos_of r acc h hr e

noncomputable def blkEnv (env:Env) (sc':Scope) (cl:List (Str×Addr)) (C:Addr):Env :=
  { scope:=sc',locals:=C,globals:=env.globals,cells:=cl,qual:=env.qual,func:=none,code:=env.code,frame:=env.frame,builtins:=env.builtins }
noncomputable def blkCx (X:Cx) (pins:List (Addr×Obj)) (N':List Str) (sc':Scope) (cl:List (Str×Addr)) (C:Addr) (s:Shared) (H:Hp) (fp:List Addr):Cx where
  prog:=X.prog
  w:=X.w
  K:=X.K
  mg:=X.mg
  base:=X.base
  A:=X.A
  N:=N'
  s₀:=s
  H₀:=H
  env:=blkEnv X.env sc' cl C
  outer:=X.stack
  stack:=X.stack
  ex:=fp
  fn:=fun _=>false
  calm:=X.calm
  pn:=X.pn++pins
  xe:=fun _ _=>False

noncomputable def relab (osc scope:Scope):Scope :=
  { scope with names:=scope.names.map fun (n,k)=>if (k == .free&&osc.kind == .function&&osc.names.lookup n==some .cell) then (n,.cell) else (n,k) }
structure CompOk (N:List Str) (osc scope:Scope) (N':List Str) (nt:Nat) (caps:List Nat):Prop where
  kind:scope.kind = .function
  nocell:∀ x∈scope.names,x.2≠NameKind.cell
  locs:∀ x∈scope.names,x.2=NameKind.local→scope.names.lookup x.1=some .local
  free:∀ x∈scope.names,x.2=NameKind.free→osc.names.lookup x.1=some .cell∨osc.names.lookup x.1=some .free
  len:N'.length=nt + caps.length
  cap:∀ p∈caps.zip (N'.drop nt),N[p.1]?=some p.2∧scope.names.lookup p.2=some NameKind.free

noncomputable def blkSt (nt:Nat) (caps:List Nat) (σ:St):St:=List.replicate nt none++caps.map fun j=>(σ[j]?).getD none

section
variable {X:Cx} {pins:List (Addr×Obj)} {σ:St} {H:Hp} {s:Shared} {scope:Scope} {N':List Str} {nt:Nat} {caps:List Nat} {fp:List Addr}
theorem free_cell (I:Inv X pins σ H s) (ck:CompOk X.N X.env.scope scope N' nt caps):∀ x∈scope.names,x.2=NameKind.free→∃ c,X.env.cells.lookup x.1=some c:=fun x hx hf =>
  I.ok.has x.1 (ck.free x hx hf)
theorem relab_free {osc:Scope} {x:Str} {k:NameKind}:∀ {names:List (Str×NameKind)},names.lookup x=some NameKind.free →
    (names.map fun (p:Str×NameKind)=>if (p.2==NameKind.free&&osc.kind == .function&&osc.names.lookup p.1==some .cell) then (p.1,NameKind.cell) else (p.1,p.2)).lookup x=some k→k = .cell∨k = .free
  | [],h,_=>by cases h
  | (n,q) :: r,h,e=>by
    by_cases hx:x=n
    · subst hx
      simp at h
      subst h
      simp only [List.map_cons] at e
      split at e <;> simp at e <;> simp [e.symm]
    · have hb:(x==n)=false:=by simpa using hx
      simp only [List.lookup_cons,hb] at h
      simp only [List.map_cons] at e
      split at e
      · simp only [List.lookup_cons,hb] at e
        exact relab_free h e
      · simp only [List.lookup_cons,hb] at e
        exact relab_free h e

theorem blk_inv (I:Inv X pins σ H s) (hc:X.calm=true) (ck:CompOk X.N X.env.scope scope N' nt caps) (hf:∀ b∈fp,FpOk X pins H b) (hlt:∀ b∈fp,b < s.heap.objs.size) {o:Obj} {h':Heap} {m:Str→Option Value} {tk:Nat}
    (hn:h'.Ns s.heap.objs.size m) (hsb:Heap.SameBut s.heap.objs.size (s.heap.push o) h') :
    Inv (blkCx X pins N' (relab X.env.scope scope) (clos X.env scope.names []) s.heap.objs.size s H fp) [] (blkSt nt caps σ) H { s with heap:=h',toks:=tk }:=by
  have fc:=free_cell I ck
  have cof:∀ x c,(clos X.env scope.names []).lookup x=some c→X.env.cells.lookup x=some c:=fun x c e=>clos_of scope.names [] (fun q=>by cases q) fc e
  have old:∀ b u,s.heap.get? b=some u→h'.get? b=some u:=fun b u e=>hsb.extBut b u (Nat.ne_of_lt (Heap.lt_size e)) (Heap.get?_push_of_some _ e)
  have cellsOk:∀ x c,(clos X.env scope.names []).lookup x=some c→∃ v,s.heap.IsCell c v:=fun x c e=>I.cell x c (cof x c e)
  have fsub:∀ b∈frs X.stack,b∈X.env.locals :: X.fs:=I.stkSub
  refine ⟨⟨I.ok.mod,ck.kind,I.ok.glob,I.ok.blt,Nat.le_refl _,fun x y c h1 h2=>I.ok.inj x y c (cof x c h1) (cof y c h2),fun x hx => ?_,fun x c hx _=>absurd (show false=true from hx) Bool.false_ne_true,fun z=>I.ok.hd z,I.ok.frames,.inl rfl,fun b hb => ?_,I.bs,Nat.le_trans I.ok.bsz I.sz,fun b u e hb => ?_,fun b hb z => ?_,I.stack,I.stkFree⟩,
    rfl,I.bare,Un.kept old,⟨m,hn,fun i x v h1 h2 h3 => ?_⟩,fun x c e => ?_,I.hok.fresh (Nat.le_refl _),fun x c e=>I.freeC x c (cof x c e),fun p hp => ?_,I.hok.kept old,?_⟩
  · -- has
    have hx:(relab X.env.scope scope).names.lookup x=some .cell∨(relab X.env.scope scope).names.lookup x=some .free:=hx
    have hm:∃ k,scope.names.lookup x=some k∧k=NameKind.free:=by
      have key:∀ (names:List (Str×NameKind)),(∀ y∈names,y.2≠NameKind.cell)→∀ k,(k=NameKind.cell∨k=NameKind.free) →
          (names.map fun (p:Str×NameKind)=>if (p.2==NameKind.free&&X.env.scope.kind == .function&&X.env.scope.names.lookup p.1==some .cell) then (p.1,NameKind.cell) else (p.1,p.2)).lookup x=some k→names.lookup x=some NameKind.free:=by
        intro names
        induction names with
        | nil=>intro _ k _ e;cases e
        | cons q r ih =>
          obtain ⟨n,q⟩:=q
          intro hn' k hk e
          by_cases hx':x=n
          · subst hx'
            simp only [List.map_cons] at e
            split at e
            · rename_i hcnd
              simp only [Bool.and_eq_true,beq_iff_eq] at hcnd
              simp [hcnd.1.1]
            · simp at e
              subst e
              rcases hk with hk | hk
              · exact absurd hk (hn' (x,q) List.mem_cons_self)
              · simp [hk]
          · have hb:(x==n)=false:=by simpa using hx'
            simp only [List.lookup_cons,hb]
            refine ih (fun y hy=>hn' y (List.mem_cons_of_mem _ hy)) k hk ?_
            simp only [List.map_cons] at e
            split at e <;> (simp only [List.lookup_cons,hb] at e;exact e)
      rcases hx with hx | hx
      · exact ⟨_,key scope.names ck.nocell _ (.inl rfl) hx,rfl⟩
      · exact ⟨_,key scope.names ck.nocell _ (.inr rfl) hx,rfl⟩
    refine xq fun _ kq=>?_
    refine x1_2 (hm) fun k hk zq1 => ?_
    obtain rfl:=zq1
    have hmem:=PySem.mem_of_lookup hk
    obtain ⟨c,hcx⟩:=fc _ hmem rfl
    apply kq
    exact ⟨c,(clos_get scope.names [] (.inl hmem) fc).trans hcx⟩
  · -- exf
    refine xq fun _ kq=>?_
    refine x0_6 (hf b hb) fun _ f1 f2 f3 f4 _ => ?_
    apply kq
    exact ⟨Nat.ne_of_lt (hlt b hb),fun x c e=>f4 x c (cof x c e)⟩
  · -- noex
    refine xq fun _ kq=>?_
    refine x0_6 (hf b hb) fun _ f1 f2 f3 f4 _ => ?_
    apply kq
    rcases f3 with z | z
    · exact I.ok.noex b u e z
    · exact absurd (Nat.lt_of_lt_of_le (Heap.lt_size e) (Nat.le_trans I.ok.bsz z)) (Nat.lt_irrefl _)
  · -- exfs
    refine xq fun _ kq=>?_
    refine x0_4 (hf b hb) fun _ f1 f2 _ => ?_
    apply kq
    rcases List.mem_cons.mp (fsub b z) with q | q
    · exact f1 q
    · exact f2 q
  · -- loc
    have h2:(blkSt nt caps σ)[i]?=some (some v):=h2
    have h1:N'[i]?=some x:=h1
    unfold blkSt at h2
    by_cases hi:i < nt
    · rw [List.getElem?_append_left (by simpa using hi),List.getElem?_replicate,if_pos hi] at h2
      cases h2
    · rw [List.getElem?_append_right (by simpa using hi),List.length_replicate,List.getElem?_map] at h2
      cases ej:caps[i - nt]? with
      | none=>rw [ej] at h2;cases h2
      | some j =>
        rw [ej] at h2
        have h2:(σ[j]?).getD none=some v:=Option.some.inj h2
        have h2':σ[j]?=some (some v):=by
          cases eq:σ[j]? with
          | none=>rw [eq] at h2;cases h2
          | some y=>rw [eq] at h2;exact congrArg some h2
        have hz:(j,x)∈caps.zip (N'.drop nt):=by
          refine List.mem_of_getElem? (i:=i - nt) ?_
          rw [List.getElem?_zip_eq_some]
          refine ⟨ej,?_⟩
          rw [List.getElem?_drop,show nt + (i - nt)=i by omega]
          exact h1
        refine xq fun _ kq=>?_
        obtain ⟨hN,hfr⟩:=ck.cap _ hz
        have hfr:scope.names.lookup x=some NameKind.free:=hfr
        have hmem:=PySem.mem_of_lookup hfr
        have hk:=ck.free _ hmem rfl
        have hk:X.env.scope.names.lookup x=some .cell∨X.env.scope.names.lookup x=some .free:=hk
        refine x1_2 (I.loc) fun m0 hn0 hl0 => ?_
        refine x1_2 (hl0 j x v hN h2' (.inr hk)) fun u ru lk => ?_
        apply kq
        refine ⟨u,ru,?_⟩
        rcases lk with ⟨k0,_⟩ | ⟨_,c,ec,zc⟩
        · have k0:X.env.scope.names.lookup x=some .local:=k0
          rcases hk with hk | hk <;> (rw [k0] at hk;cases hk)
        · refine .inr ⟨?_,c,(clos_get scope.names [] (.inl hmem) fc).trans ec,?_⟩
          · have h3:(relab X.env.scope scope).names.lookup x=some .local∨(relab X.env.scope scope).names.lookup x=some .cell∨(relab X.env.scope scope).names.lookup x=some .free:=h3
            rcases h3 with h3 | h3 | h3
            · rcases relab_free hfr h3 with z | z <;> cases z
            · exact .inl h3
            · exact .inr h3
          · refine x1_2 (zc) fun ob ho hd => ?_
            exact ⟨ob,old c ob ho,hd⟩
  · -- cell
    refine xq fun _ kq=>?_
    obtain ⟨v,hv⟩:=cellsOk x c e
    refine x1_2 (hv) fun ob ho hd => ?_
    apply kq
    exact ⟨v,ob,old c ob ho,hd⟩
  · -- pin
    have hp':p∈X.pn++pins:=by
      rcases List.mem_append.mp hp with z | z
      · exact z
      · cases z
    refine xq fun _ kq=>?_
    refine x0_5 (I.pin p hp') fun e n ne nf d => ?_
    apply kq
    refine ⟨old _ _ e,n,Nat.ne_of_lt (Heap.lt_size e),fun z => ?_,d⟩
    rcases List.mem_cons.mp (fsub p.1 z) with q | q
    · exact ne q
    · exact nf q
  · -- len
    show (blkSt nt caps σ).length=N'.length
    unfold blkSt
    rw [ck.len]
    simp
end
end L2.PM

set_option Elab.async false
set_option linter.all false
set_option maxRecDepth 100000
noncomputable section
namespace L2.PM
open PySem PySem.Spec PyProof.Rows

noncomputable def PIfs (X:Cx) (ifs:List Expr) (t:TT):Prop :=
  ∀ (pins:List (Addr×Obj)) (s:Shared) (σ:St) (H:Hp) (Q:Bool→Hp→Prop),Inv X pins σ H s→t σ H Q →
    wpAny (model X.prog X.w) X.A (forIn ifs true fun c r=>if r=true then do let ok ← isTrue c X.env (eval c X.env);pure (ForInStep.yield ok) else pure (ForInStep.yield r)) (TP X pins σ Q) X.xe s
noncomputable def tYes:TT:=fun _ H Q=>Q true H
theorem pifs_nil {X:Cx}:PIfs X [] tYes:=fun _ _ _ H _ I h=>wpAny_tests_nil ⟨H,I,h⟩
theorem pifs_one {X:Cx} {c:Expr} {t:TT} (h:PT X c t):PIfs X [c] t:=fun pins s σ H Q I hq=>wpAny_tests_one (h pins s σ H Q I hq)

theorem compLoop_go {prog:Program} {w:World} {A:Around} {R:Result→Shared→Prop} {s:Shared} {elt target iter:Expr} {ifs:List Expr} {scope:Scope} {pos:Pos} {it acc:Value} {env:Env} (I:Nat→Shared→Prop)
    (turn:∀ n s,I n s→wpAny (model prog w) A (pyNext it) (fun r s₁=>match r with
      | none=>R (.ok .next) s₁
      | some v=>wpAny (model prog w) A (letOwnedTupleGo target it v) (fun _ s₁'=>wpAny (model prog w) A (assign target env v) (fun _ s₂ =>
          wpAny (model prog w) A (forIn ifs true fun c r=>if r=true then do let ok ← isTrue c env (eval c env);pure (ForInStep.yield ok) else pure (ForInStep.yield r)) (fun ok s₃ =>
            if ok=true then wpAny (model prog w) A (eval elt env) (fun x s₄ =>
              wpAny (model prog w) A (call (.builtin "list.append") [acc,x]) (fun _ s₅=>∃ m,m < n∧I m s₅) (fun _ _=>False) s₄) (fun _ _=>False) s₃
            else ∃ m,m < n∧I m s₃) (fun _ _=>False) s₂) (fun _ _=>False) s₁') (fun _ _=>False) s₁) (fun _ _=>False) s)
    (n:Nat) (h:I n s) :
    codeAny (model prog w) A (.compLoop (.ListComp elt [⟨target,iter,ifs,0⟩] scope pos) 0 it acc env) R s:=by
  refine codeAny_loop rfl I (fun n s hI => ?_) n h
  show wpAny _ A ((compTurn (.ListComp elt [⟨target,iter,ifs,0⟩] scope pos) 0 it acc env).onRaise (fun x=>do noteFrame x env;theTreesLotGoes x)) _ _ s
  refine wpAny_noted ?_
  rw [compTurn_list]
  refine wpAny_bind (wpAny_standAt (wpAny_bind (wpAny_mono (turn n s hI) (fun r s₁ h₁ => ?_) fun _ _ h'=>h'.elim)))
  cases r with
  | none=>exact wpAny_pure h₁
  | some v =>
    refine wpAny_bind (wpAny_mono h₁ (fun _ s₁' h₁' => ?_) fun _ _ h'=>h'.elim)
    refine wpAny_bind (wpAny_mono h₁' (fun _ s₂ h₂=>wpAny_bind (wpAny_mono h₂ (fun ok s₃ h₃ => ?_) fun _ _ h'=>h'.elim)) fun _ _ h'=>h'.elim)
    cases ok with
    | false=>exact wpAny_pure ⟨rfl,h₃⟩
    | true =>
      exact wpAny_bind (wpAny_bind (wpAny_mono h₃ (fun x s₄ h₄=>wpAny_bind (wpAny_mono h₄ (fun _ s₅ h₅=>wpAny_pure (wpAny_pure ⟨rfl,h₅⟩)) fun _ _ h'=>h'.elim)) fun _ _ h'=>h'.elim))

noncomputable def StExt (σ σ':St):Prop:=σ'.length=σ.length∧∀ (i:Nat) (v:V),σ[i]?=some (some v)→σ'[i]?=some (some v)
noncomputable def CompRd (J:It) (nt:Nat) (caps:List Nat) (g:TG) (tc:TT) (te:TE) (σ:St) (H1:Hp) (Qd:Addr→Hp→Prop):Prop :=
  ∀ D,H1 D=none→∃ W:Nat→Nat→List V→Hp→Prop,(∃ m,W 0 m [] (upd H1 D (.lst []))) ∧
    ∀ i m xs H2,W i m xs H2→(J.stop i H2∧Qd D H2)∨(J.go i H2∧∀ x H3,J.yld i H2 x H3→g x (blkSt nt caps σ) H3 fun σ4 H4=>StExt (blkSt nt caps σ) σ4 ∧
      tc σ4 H4 fun b H5=>if b=true then te σ4 H5 fun v H6=>H6 D=some (.lst xs)∧xs.length < sizeLine∧∃ m',m' < m∧W (i + 1) m' (xs++[v]) (upd H6 D (.lst (xs++[v]))) else ∃ m',m' < m∧W (i + 1) m' xs H5)

section
variable {X:Cx} {pins:List (Addr×Obj)} {σ:St} {H:Hp} {s:Shared} {scope:Scope} {N':List Str} {nt:Nat} {caps:List Nat} {fp:List Addr} {tg iter elt:Expr} {ifs:List Expr} {pos:Pos}
theorem comp_run {J:It} {it:Addr} {tn:Nat→Heap→Prop} {g:TG} {tc:TT} {te:TE} {Qd:Addr→Hp→Prop} {RR:Value→Addr→Result→Shared→Prop} {E:Value→Shared→Prop}
    (I:Inv X pins σ H s) (hc:X.calm=true) (ck:CompOk X.N X.env.scope scope N' nt caps) (hrel:relabel scope X.env=relab X.env.scope scope)
    (T:Turn X.prog X.w X.K tg J fp it tn) (h0:tn 0 s.heap) (hf:∀ b∈fp,FpOk X pins H b)
    (hg:∀ pins cl C s H fp,PG (blkCx X pins N' (relab X.env.scope scope) cl C s H fp) tg g)
    (ht:∀ pins cl C s H fp,PIfs (blkCx X pins N' (relab X.env.scope scope) cl C s H fp) ifs tc)
    (he:∀ pins cl C s H fp,PE (blkCx X pins N' (relab X.env.scope scope) cl C s H fp) elt te)
    (rd:CompRd J nt caps g tc te σ H Qd)
    (hRR:∀ D C s' H',Inv X pins σ H' s'→(∃ m,s'.heap.Ns C m)→FpOk X pins H' C→Qd D H'→RR (.ref D) C (.ok .next) s') :
    wpAny (model X.prog X.w) X.A (newList []) (fun acc s₃=>wpAny (model X.prog X.w) X.A (newFunctionEnv scope X.env.globals (clos X.env scope.names []) [] X.env.qual none .none (some X.env)) (fun cenv s₄ =>
      codeAny (model X.prog X.w) X.A (.compStart (.ListComp elt [⟨tg,iter,ifs,0⟩] scope pos) 0 (.ref it) acc { cenv with scope:=relabel scope X.env }) (RR acc cenv.locals) s₄) E s₃) E s:=by
  have hD:H s.heap.objs.size=none:=I.fresh
  refine xq fun _ kq=>?_
  refine x1_2 (rd s.heap.objs.size hD) fun W zq1 turn => ?_
  obtain ⟨m0,w0⟩:=zq1
  apply kq
  refine wpAny_newObj_type (wpAny_newFunctionEnv ck.nocell (by intro y hy;simp at hy) (fun h₁ hns₁ hsb₁ => ?_) ck.kind)
  rw [hrel]
  dsimp only at hns₁ hsb₁ ⊢
  have I3:Inv X pins σ (upd H s.heap.objs.size (.lst [])) { s with heap:=s.heap.push { cls := .type "list",data := .seq ([]:List Value).toArray } }:=I.lnew (t':=s.toks) .nil (Nat.zero_le _)
  have hlt:∀ b∈fp,b < s.heap.objs.size:=fun b hb=>by
    refine x1_2 (T.obj 0 _ h0 b hb) fun o e _ => ?_
    exact Heap.lt_size e
  have hf3:∀ b∈fp,FpOk X pins (upd H s.heap.objs.size (.lst [])) b:=fun b hb=>by
    obtain ⟨f0,f⟩:=hf b hb
    exact ⟨by rw [upd_ne (Nat.ne_of_lt (hlt b hb))];exact f0,f⟩
  have hlt3:∀ b∈fp,b < (s.heap.push { cls := .type "list",data := .seq ([]:List Value).toArray }).objs.size:=fun b hb=>by
    rw [Heap.size_push]
    exact Nat.lt_succ_of_lt (hlt b hb)
  have IB:=blk_inv (tk:=s.toks + ([]:List (Str×Value)).length) I3 hc ck hf3 hlt3 hns₁ hsb₁
  have keep1:∀ b o,s.heap.get? b=some o→h₁.get? b=some o:=fun b o e=>hsb₁.extBut b o (Nat.ne_of_lt (Nat.lt_of_lt_of_le (Heap.lt_size e) (by rw [Heap.size_push];exact Nat.le_succ _))) (Heap.get?_push_of_some _ (Heap.get?_push_of_some _ e))
  have st1:tn 0 h₁:=T.keep _ _ _ h0 fun b _ o e=>keep1 b o e
  have hg':=hg pins (clos X.env scope.names []) (s.heap.push { cls := .type "list",data := .seq ([]:List Value).toArray }).objs.size { s with heap:=s.heap.push { cls := .type "list",data := .seq ([]:List Value).toArray } } (upd H s.heap.objs.size (.lst [])) fp
  have ht':=ht pins (clos X.env scope.names []) (s.heap.push { cls := .type "list",data := .seq ([]:List Value).toArray }).objs.size { s with heap:=s.heap.push { cls := .type "list",data := .seq ([]:List Value).toArray } } (upd H s.heap.objs.size (.lst [])) fp
  have he':=he pins (clos X.env scope.names []) (s.heap.push { cls := .type "list",data := .seq ([]:List Value).toArray }).objs.size { s with heap:=s.heap.push { cls := .type "list",data := .seq ([]:List Value).toArray } } (upd H s.heap.objs.size (.lst [])) fp
  have hY:∃ Y:Cx,Y=blkCx X pins N' (relab X.env.scope scope) (clos X.env scope.names []) (s.heap.push { cls := .type "list",data := .seq ([]:List Value).toArray }).objs.size { s with heap:=s.heap.push { cls := .type "list",data := .seq ([]:List Value).toArray } } (upd H s.heap.objs.size (.lst [])) fp:=⟨_,rfl⟩
  obtain ⟨Y,eY⟩:=hY
  have eP:Y.prog=X.prog:=by rw [eY];rfl
  have eW:Y.w=X.w:=by rw [eY];rfl
  have eK:Y.K=X.K:=by rw [eY];rfl
  have eA:Y.A=X.A:=by rw [eY];rfl
  have eC:Y.calm=true:=by rw [eY];exact hc
  have eE:Y.xe=fun _ _=>False:=by rw [eY];rfl
  have eEnv:Y.env=blkEnv X.env (relab X.env.scope scope) (clos X.env scope.names []) (s.heap.push { cls := .type "list",data := .seq ([]:List Value).toArray }).objs.size:=by rw [eY];rfl
  have back:∀ {H':Hp} {s':Shared},Inv Y [] (blkSt nt caps σ) H' s'→Inv X pins σ H' s'∧(∃ m,s'.heap.Ns (s.heap.push { cls := .type "list",data := .seq ([]:List Value).toArray }).objs.size m)∧FpOk X pins H' (s.heap.push { cls := .type "list",data := .seq ([]:List Value).toArray }).objs.size:=by
    intro H' s' IY
    subst eY
    refine ⟨I3.call' (ch:=fp) IY.os IY.base IY.hok IY.bare fun b hb => ?_,?_,I3.fpOk (Nat.le_refl _) IY.free⟩
    · refine xq fun _ kq=>?_
      refine x0_6 (hf b hb) fun _ f1 _ f3 f4 f5 => ?_
      apply kq
      exact ⟨f3,f1,f4,f5⟩
    · refine x1_2 (IY.loc) fun m hn _ => ?_
      exact ⟨m,hn⟩
  have fpY:∀ {H':Hp},(∀ b∈fp,H' b=none)→∀ b∈fp,FpOk Y [] H' b:=by
    intro H' hn b hb
    subst eY
    refine xq fun _ kq=>?_
    refine x0_6 (hf b hb) fun _ f1 f2 f3 f4 f5 => ?_
    apply kq
    refine ⟨hn b hb,Nat.ne_of_lt (hlt3 b hb),IB.ok.exfs b hb,.inl hb,(IB.ok.exf b hb).2,fun p hp => ?_⟩
    rcases List.mem_append.mp hp with z | z
    · exact f5 p z
    · cases z
  have IB:Inv Y [] (blkSt nt caps σ) (upd H s.heap.objs.size (.lst [])) { s with heap:=h₁,toks:=s.toks + ([]:List (Str×Value)).length }:=by rw [eY];exact IB
  rw [← eY] at hg' ht' he'
  have loop:∀ s₃:Shared,s₃={ s with heap:=h₁,toks:=s.toks + ([]:List (Str×Value)).length } →
      codeAny (model X.prog X.w) X.A (.compLoop (.ListComp elt [⟨tg,iter,ifs,0⟩] scope pos) 0 (.ref it) (.ref s.heap.objs.size) Y.env) (RR (.ref s.heap.objs.size) (s.heap.push { cls := .type "list",data := .seq ([]:List Value).toArray }).objs.size) s₃:=by
    rintro s₃ rfl
    refine compLoop_go (fun n s'=>∃ i xs H',Inv Y [] (blkSt nt caps σ) H' s'∧tn i s'.heap∧(∀ b∈fp,H' b=none)∧W i n xs H') ?_ m0 ⟨0,[],_,IB,st1,fun b hb=>(hf3 b hb).1,w0⟩
    rintro n s4 ⟨i,xs,H4,I4,st4,fr4,w4⟩
    rcases turn i n xs H4 w4 with ⟨stop,q⟩ | ⟨go,step⟩
    · have z:=T.done Y eP eW eK eC i [] s4 _ H4 (fun _ _=>False) I4 (fpY fr4) st4 stop
      rw [eA] at z
      refine thn z fun r s5 hq9=>x0_2 hq9 fun hr I5 => ?_
      subst hr
      refine x0_3 (back I5) fun a1 a2 a3 => ?_
      exact hRR _ _ s5 H4 a1 a2 a3 q
    · have z:=T.item Y eP eW eK eC i [] s4 _ H4 (fun _ _=>False) I4 (fpY fr4) st4 go
      rw [eA] at z
      refine thn z fun r s5 hq9=>x1_2 hq9 fun u hr h5 => ?_
      subst hr
      refine thn h5 fun _ s6 hq9=>x2_5 hq9 fun x H6 I6 r6 y6 st6 fr6 => ?_
      have I6':=I6.pinned (fpY fr6) (T.obj _ _ st6)
      have again:∀ {σ7:St} {H7:Hp} {s7:Shared} {xs':List V},Inv Y ([]++pinsAt fp s6.heap) σ7 H7 s7→StExt (blkSt nt caps σ) σ7→(∃ m',m' < n∧W (i + 1) m' xs' H7) →
          ∃ m,m < n∧∃ i xs H',Inv Y [] (blkSt nt caps σ) H' s7∧tn i s7.heap∧(∀ b∈fp,H' b=none)∧W i m xs H':=fun {σ7 H7 s7 xs'} I7 ex hq9=>x1_2 hq9 fun m' hm w7=>by
        refine ⟨m',hm,i + 1,xs',H7,(I7.unpinned).weak ex.1.symm ex.2,T.keep _ _ _ st6 fun b hb o e=>(I7.pin (b,o) (List.mem_append_right _ (List.mem_append_right _ (mem_pinsAt hb e)))).1,fun b hb => ?_,w7⟩
        refine x1_2 (T.obj _ _ st6 b hb) fun o e d => ?_
        exact (I7.pin (b,o) (List.mem_append_right _ (List.mem_append_right _ (mem_pinsAt hb e)))).2.1
      have z2:=hg' _ s6 _ H6 x u _ I6' r6 (step x H6 y6)
      rw [eP,eW,eA,eE] at z2
      refine thn z2 fun _ s7 hq9=>x2_3 hq9 fun σ7 H7 I7 ex7 q7 => ?_
      have z3:=ht' _ s7 σ7 H7 _ I7 q7
      rw [eP,eW,eA,eE] at z3
      refine thn z3 fun b s8 hq9=>x1_2 hq9 fun H8 I8 q8 => ?_
      cases b with
      | false =>
        rw [if_neg Bool.false_ne_true] at q8 ⊢
        exact again I8 ex7 q8
      | true =>
        rw [if_pos rfl] at q8 ⊢
        have z4:=he' _ s8 σ7 H8 _ I8 q8
        rw [eP,eW,eA,eE] at z4
        refine thn z4 fun xv s9 hq9=>x2_5 hq9 fun v H9 I9 r9 hD9 hl9 q9 => ?_
        have z5:=mt_append (X:=Y) _ s9 σ7 H9 (.ref s.heap.objs.size) [v] (.ref s.heap.objs.size) [xv] (fun _ H'=>∃ m',m' < n∧W (i + 1) m' (xs++[v]) H') I9 rfl (.cons r9 .nil) ⟨_,xs,v,rfl,rfl,hD9,hl9,q9⟩
        rw [eP,eW,eA,eE] at z5
        refine thn z5 fun _ s10 hq9=>x2_3 hq9 fun _ H10 I10 _ q10 => ?_
        exact again I10 ex7 q10
  rw [eEnv] at loop
  refine codeAny_compStart_list (loop _ rfl) (T.self _ 0 _ _ _ st1 (loop _ rfl))

theorem FpOk.turn {H':Hp} {s':Shared} {C:Addr} {h':Heap} (I:Inv X pins σ H' s') (f:FpOk X pins H' C) (hs:Heap.SameBut C s'.heap h'):Inv X pins σ H' { s' with heap:=h' }:=by
  refine xq fun _ kq=>?_
  refine x0_6 (f) fun f0 f1 f2 f3 f4 f5 => ?_
  apply kq
  exact I.turned (t':=s'.toks) (fun b o hb e=>hs.extBut b o hb e) f0 f1 f3 f4 f5
noncomputable def tComp (wi:TI) (nt:Nat) (caps:List Nat) (g:TG) (tc:TT) (te:TE):TE:=fun σ H Q=>wi σ H fun J H1=>CompRd J nt caps g tc te σ H1 fun D H2=>Q (.ref D) H2
variable {wi:TI} {g:TG} {tc:TT} {te:TE}
theorem pe_comp (hc:X.calm=true) (ck:CompOk X.N X.env.scope scope N' nt caps) (hi:PI X tg iter wi)
    (hg:∀ pins cl C s H fp,PG (blkCx X pins N' (relab X.env.scope scope) cl C s H fp) tg g)
    (ht:∀ pins cl C s H fp,PIfs (blkCx X pins N' (relab X.env.scope scope) cl C s H fp) ifs tc)
    (he:∀ pins cl C s H fp,PE (blkCx X pins N' (relab X.env.scope scope) cl C s H fp) elt te)
    (hs:∀ x,foldedSetIterable iter X.env x=pure x:=by intro _;rfl) (hrel:relabel scope X.env=relab X.env.scope scope:=by rfl) :
    PE X (.ListComp elt [⟨tg,iter,ifs,0⟩] scope pos) (tComp wi nt caps g tc te):=by
  intro pins s σ H Q I h
  rw [eval_ListComp]
  refine wpAny_comprehension_free (use:=none) rfl hs (closureFor_eq (free_cell I ck)) ck.kind ck.locs (thn (hi pins s σ H _ I h) fun xv s₁ h₁=>thn h₁ fun itv s₂ h₂ => ?_)
  refine xq fun _ kq=>?_
  refine x5_6 (h₂) fun it fp tn J H2 e I2 T st2 f2 rd => ?_
  apply kq
  subst e
  refine comp_run (RR:=fun acc C=>compPost (model X.prog X.w) X.A X.xe none (EP X pins σ Q) acc C) I2 hc ck hrel T st2 f2 hg ht he rd ?_
  intro D C s' H' I' hm f q
  obtain ⟨m,hm⟩:=hm
  exact ⟨m,hm,fun h' hs'=>⟨.ref D,H',FpOk.turn I' f hs',rfl,q⟩⟩
noncomputable def sSetComp (i:Nat) (wi:TI) (nt:Nat) (caps:List Nat) (g:TG) (tc:TT) (te:TE):TS:=fun D σ H=>wi σ H fun J H1=>CompRd J nt caps g tc te σ H1 fun d H2=>D.nx (σ.set i (some (.ref d))) H2
theorem ps_setcomp {i:Nat} {y:Str} {py spos:Pos} (hN:X.N.Nodup) (hi':X.N[i]?=some y) (hy:X.env.scope.names.lookup y=some .local) (hc:X.calm=true) (ck:CompOk X.N X.env.scope scope N' nt caps) (hi:PI X tg iter wi)
    (hg:∀ pins cl C s H fp,PG (blkCx X pins N' (relab X.env.scope scope) cl C s H fp) tg g)
    (ht:∀ pins cl C s H fp,PIfs (blkCx X pins N' (relab X.env.scope scope) cl C s H fp) ifs tc)
    (he:∀ pins cl C s H fp,PE (blkCx X pins N' (relab X.env.scope scope) cl C s H fp) elt te)
    (hsw:swapsWith (.ListComp elt [⟨tg,iter,ifs,0⟩] scope pos) (some (.Name y py)) spos.line X.env=pure true:=by rfl)
    (hs:∀ x,foldedSetIterable iter X.env x=pure x:=by intro _;rfl) (hrel:relabel scope X.env=relab X.env.scope scope:=by rfl) :
    PS X (.Assign [.Name y py] (.ListComp elt [⟨tg,iter,ifs,0⟩] scope pos) spos) (sSetComp i wi nt caps g tc te):=by
  intro pins s σ H D I h
  rw [exec_Assign_Name_used _ _ _ _ hsw]
  refine wpAny_bind (wpAny_standAt (wpAny_bind ?_))
  show wpAny _ X.A (do let _ ← comprehension (.ListComp elt [⟨tg,iter,ifs,0⟩] scope pos) scope X.env _ (newList []) false (eval iter X.env) (some (assign (.Name y py) X.env))) _ _ s
  refine wpAny_bind (wpAny_mono (wpAny_comprehension_free (use:=some (assign (.Name y py) X.env)) (Q:=fun _ s'=>SP X pins D .next s') rfl hs (closureFor_eq (free_cell I ck)) ck.kind ck.locs
    (thn (hi pins s σ H _ I h) fun xv s₁ h₁=>thn h₁ fun itv s₂ h₂ => ?_)) (fun _ s' hq=>wpAny_pure (wpAny_pure hq)) fun _ _ e=>e)
  refine xq fun _ kq=>?_
  refine x5_6 (h₂) fun it fp tn J H2 e I2 T st2 f2 rd => ?_
  apply kq
  subst e
  refine comp_run (RR:=fun acc C=>compPost (model X.prog X.w) X.A X.xe (some (assign (.Name y py) X.env)) (fun _ s'=>SP X pins D .next s') acc C) I2 hc ck hrel T st2 f2 hg ht he rd ?_
  intro d C s' H' I' hm f q
  obtain ⟨m,hm⟩:=hm
  show wpAny _ X.A (assign (.Name y py) X.env (.ref d)) _ _ s'
  refine wpAny_assign_Name (store_ok2 I' hN hi' (.inl hy) (show RelV (.ref d) (.ref d) from rfl) (fun s'' I'' hs'' => ?_) (.inr hy))
  refine x1_2 (hs'') fun a sb ha => ?_
  have hCa:C≠a:=by
    rcases ha with ha | ha
    · rw [ha];exact f.2.1
    · exact fun z=>f.2.2.2.2.1 _ _ ha z.symm
  exact ⟨m,hm.sameBut sb hCa,fun h' hs'=>⟨_,H',FpOk.turn I'' f hs',q⟩⟩
end
end L2.PM

set_option Elab.async false
set_option linter.all false
set_option maxRecDepth 100000
noncomputable section
namespace L2.PM
open PySem PySem.Spec PyProof.Rows

inductive PV where
  | non | bl (b:Bool) | int (i:Int) | str (x:Str) | tup (xs:List PV) | lst (xs:List PV) | obj (C:Addr) (ks:List Str) (ps:List PV) | opq (a:Addr)

mutual
noncomputable def Rep (K:PySem.W.Frag) (F:Hp):PV→V→Prop
  | .non,v=>v = .non
  | .bl b,v=>v = .bl b
  | .int i,v=>v = .int i
  | .str x,v=>v = .str x
  | .tup xs,v=>∃ a vs,v = .ref a∧SqT K F a vs∧RepL K F xs vs
  | .lst xs,v=>∃ a vs,v = .ref a∧SqL K F a vs∧RepL K F xs vs
  | .obj C ks ps,v=>∃ a dx vs,v = .ref a∧F a=some (.ins C dx (ks.zip vs))∧F dx=some (.own a)∧ks.length=vs.length∧RepL K F ps vs
  | .opq a,v=>v = .ref a
noncomputable def RepL (K:PySem.W.Frag) (F:Hp):List PV→List V→Prop
  | [],vs=>vs=[]
  | x :: xs,vs=>∃ v r,vs=v :: r∧Rep K F x v∧RepL K F xs r
end

theorem _root_.L2.Same.seqT {K:PySem.W.Frag} {H H':Hp} {a:Addr} {xs:List V} (e:Same H H') (h:SqT K H a xs):SqT K H' a xs:=by
  rcases h with (h | ⟨o,h⟩) | h
  · exact .inl (.inl (e _ _ h))
  · exact .inl (.inr ⟨o,e _ _ h⟩)
  · exact .inr h

section
variable {K:PySem.W.Frag} {F F':Hp}
mutual
theorem Rep.mono (e:Same F F'):∀ {p:PV} {v:V},Rep K F p v→Rep K F' p v
  | .non,_,h=>h
  | .bl _,_,h=>h
  | .int _,_,h=>h
  | .str _,_,h=>h
  | .tup xs,_,h=>by
    unfold Rep at h ⊢
    refine xq fun _ kq=>?_
    refine x2_3 (h) fun a vs h1 h2 h3 => ?_
    apply kq
    exact ⟨a,vs,h1,e.seqT h2,RepL.mono e h3⟩
  | .lst xs,_,h=>by
    unfold Rep at h ⊢
    refine xq fun _ kq=>?_
    refine x2_3 (h) fun a vs h1 h2 h3 => ?_
    apply kq
    exact ⟨a,vs,h1,e.seq h2,RepL.mono e h3⟩
  | .obj C ks ps,_,h=>by
    unfold Rep at h ⊢
    refine xq fun _ kq=>?_
    refine x3_5 (h) fun a dx vs h1 h2 h3 h4 h5 => ?_
    apply kq
    exact ⟨a,dx,vs,h1,e _ _ h2,e _ _ h3,h4,RepL.mono e h5⟩
  | .opq _,_,h=>h
theorem RepL.mono (e:Same F F'):∀ {ps:List PV} {vs:List V},RepL K F ps vs→RepL K F' ps vs
  | [],_,h=>h
  | x :: xs,_,h=>by
    unfold RepL at h ⊢
    refine xq fun _ kq=>?_
    refine x2_3 (h) fun v r h1 h2 h3 => ?_
    apply kq
    exact ⟨v,r,h1,Rep.mono e h2,RepL.mono e h3⟩
end
theorem RepL.nil:RepL K F [] []:=by unfold RepL;rfl
theorem RepL.cons {p:PV} {v:V} {ps:List PV} {vs:List V} (h:Rep K F p v) (t:RepL K F ps vs):RepL K F (p :: ps) (v :: vs):=by
  unfold RepL
  exact ⟨v,vs,rfl,h,t⟩
theorem RepL.length:∀ {ps:List PV} {vs:List V},RepL K F ps vs→vs.length=ps.length
  | [],_,h=>by unfold RepL at h;subst h;rfl
  | x :: xs,_,h=>by
    unfold RepL at h
    refine xq fun _ kq=>?_
    refine x2_3 (h) fun v r zq1 _ h3 => ?_
    obtain rfl:=zq1
    apply kq
    simp [RepL.length h3]
theorem RepL.get:∀ {ps:List PV} {vs:List V} {i:Nat} {p:PV},RepL K F ps vs→ps[i]?=some p→∃ v,vs[i]?=some v∧Rep K F p v
  | [],_,_,_,_,e=>by simp at e
  | x :: xs,_,i,p,h,e=>by
    unfold RepL at h
    refine xq fun _ kq=>?_
    refine x2_3 (h) fun v r zq1 h2 h3 => ?_
    obtain rfl:=zq1
    apply kq
    cases i with
    | zero=>simp at e;subst e;exact ⟨v,rfl,h2⟩
    | succ i =>
      refine x1_2 (RepL.get (i:=i) h3 (by simpa using e)) fun u e1 e2 => ?_
      exact ⟨u,by simpa using e1,e2⟩
theorem RepL.back {ps:List PV} {vs:List V} {i:Nat} {v:V} (h:RepL K F ps vs) (e:vs[i]?=some v):∃ p,ps[i]?=some p∧Rep K F p v:=by
  cases q:ps[i]? with
  | none =>
    have h1:ps.length≤i:=List.getElem?_eq_none_iff.mp q
    have h2:i < vs.length:=(List.getElem?_eq_some_iff.mp e).1
    rw [h.length] at h2
    omega
  | some p =>
    refine x1_2 (h.get q) fun u e1 e2 => ?_
    rw [e] at e1
    cases e1
    exact ⟨p,rfl,e2⟩
theorem RepL.append:∀ {ps qs:List PV} {vs us:List V},RepL K F ps vs→RepL K F qs us→RepL K F (ps++qs) (vs++us)
  | [],_,_,_,h,t=>by unfold RepL at h;subst h;exact t
  | x :: xs,_,_,_,h,t=>by
    unfold RepL at h
    refine xq fun _ kq=>?_
    refine x2_3 (h) fun v r zq1 h2 h3 => ?_
    obtain rfl:=zq1
    apply kq
    exact .cons h2 (RepL.append h3 t)
theorem RepL.snoc {ps:List PV} {vs:List V} {p:PV} {v:V} (h:RepL K F ps vs) (t:Rep K F p v):RepL K F (ps++[p]) (vs++[v]):=h.append (.cons t .nil)
theorem RepL.take:∀ {ps:List PV} {vs:List V} (n:Nat),RepL K F ps vs→RepL K F (ps.take n) (vs.take n)
  | _,_,0,_=>by simpa using RepL.nil
  | [],_,n + 1,h=>by unfold RepL at h;subst h;exact .nil
  | x :: xs,_,n + 1,h=>by
    unfold RepL at h
    refine xq fun _ kq=>?_
    refine x2_3 (h) fun v r zq1 h2 h3 => ?_
    obtain rfl:=zq1
    apply kq
    exact .cons h2 (RepL.take n h3)
theorem RepL.drop:∀ {ps:List PV} {vs:List V} (n:Nat),RepL K F ps vs→RepL K F (ps.drop n) (vs.drop n)
  | _,_,0,h=>by simpa using h
  | [],_,n + 1,h=>by unfold RepL at h;subst h;exact .nil
  | x :: xs,_,n + 1,h=>by
    unfold RepL at h
    refine xq fun _ kq=>?_
    refine x2_3 (h) fun v r zq1 h2 h3 => ?_
    obtain rfl:=zq1
    apply kq
    simpa using RepL.drop n h3
theorem RepL.set:∀ {ps:List PV} {vs:List V} (i:Nat) {p:PV} {v:V},RepL K F ps vs→Rep K F p v→RepL K F (ps.set i p) (vs.set i v)
  | [],_,_,_,_,h,_=>by unfold RepL at h;subst h;exact .nil
  | x :: xs,_,0,_,_,h,q=>by
    unfold RepL at h
    refine xq fun _ kq=>?_
    refine x2_3 (h) fun v r zq1 h2 h3 => ?_
    obtain rfl:=zq1
    apply kq
    exact .cons q h3
  | x :: xs,_,i + 1,_,_,h,q=>by
    unfold RepL at h
    refine xq fun _ kq=>?_
    refine x2_3 (h) fun v r zq1 h2 h3 => ?_
    obtain rfl:=zq1
    apply kq
    exact .cons h2 (RepL.set i h3 q)
end

structure Grow (F H F' H':Hp):Prop where
  ext:Same F F'
  sub:Same F' H'
  same:Same H H'
  new:∀ a o,F' a=some o→F a=some o∨H a=none
theorem Grow.refl {F H:Hp} (h:Same F H):Grow F H F H:=⟨Same.refl _,h,Same.refl _,fun _ _ e => .inl e⟩
theorem Grow.trans {F H F1 H1 F2 H2:Hp} (a:Grow F H F1 H1) (b:Grow F1 H1 F2 H2):Grow F H F2 H2 :=
  ⟨a.ext.trans b.ext,b.sub,a.same.trans b.same,fun c o e=>by
    rcases b.new c o e with z | z
    · exact a.new c o z
    · exact .inr (a.same.free z)⟩
theorem Grow.laid {F H:Hp} {p:Addr} {o:HO} (h:Same F H) (n:H p=none):Grow F H (upd F p o) (upd H p o):=by
  have nF:F p=none:=by
    cases q:F p with
    | none=>rfl
    | some u=>rw [h p u q] at n;cases n
  refine ⟨fun a u e => ?_,fun a u e => ?_,fun a u e => ?_,fun a u e => ?_⟩
  · rw [upd_ne (ne_of_none e nF)];exact e
  · by_cases z:a=p
    · subst z;rw [upd_same] at e ⊢;exact e
    · rw [upd_ne z] at e ⊢;exact h a u e
  · rw [upd_ne (ne_of_none e n)];exact e
  · by_cases z:a=p
    · subst z;exact .inr n
    · rw [upd_ne z] at e;exact .inl e
theorem Grow.side {F H:Hp} {p:Addr} {o:HO} (h:Same F H) (n:H p=none):Grow F H F (upd H p o):=by
  refine ⟨Same.refl _,fun a u e => ?_,fun a u e => ?_,fun a u e => .inl e⟩
  · rw [upd_ne (ne_of_none (h a u e) n)];exact h a u e
  · rw [upd_ne (ne_of_none e n)];exact e

inductive Slot where
  | un | fz (p:PV) | ow (xs:List PV)
noncomputable abbrev PEnv:=List Slot
noncomputable def Slot.val:Slot→Option PV
  | .un=>none
  | .fz p=>some p
  | .ow xs=>some (.lst xs)
noncomputable def getV (γ:PEnv) (i:Nat):Option PV:=(γ[i]?).bind Slot.val
noncomputable def ERep (K:PySem.W.Frag) (F:Hp) (σ:St) (γ:PEnv) (ms:List Nat):Prop:=∀ i∈ms,∀ p,getV γ i=some p→∃ v,σ[i]?=some (some v)∧Rep K F p v
theorem ERep.mono {K:PySem.W.Frag} {F F':Hp} {σ:St} {γ:PEnv} {ms:List Nat} (h:ERep K F σ γ ms) (e:Same F F'):ERep K F' σ γ ms:=fun i hi p hp=>by
  refine x1_2 (h i hi p hp) fun v h1 h2 => ?_
  exact ⟨v,h1,h2.mono e⟩
theorem ERep.left {K:PySem.W.Frag} {F:Hp} {σ:St} {γ:PEnv} {ms ns:List Nat} (h:ERep K F σ γ (ms++ns)):ERep K F σ γ ms:=fun i hi=>h i (List.mem_append_left _ hi)
theorem ERep.right {K:PySem.W.Frag} {F:Hp} {σ:St} {γ:PEnv} {ms ns:List Nat} (h:ERep K F σ γ (ms++ns)):ERep K F σ γ ns:=fun i hi=>h i (List.mem_append_right _ hi)

noncomputable def Wv (K:PySem.W.Frag) (F H:Hp) (r:PV) (Q:VK):Prop:=∀ v H' F',Grow F H F' H'→Rep K F' r v→Q v H'
noncomputable def Wo (K:PySem.W.Frag) (F H:Hp) (xs:List PV) (Q:VK):Prop:=∀ a vs H' F',Grow F H F' H'→H a=none→F' a=none→H' a=some (.lst vs)→RepL K F' xs vs→Q (.ref a) H'
theorem Wv.go {K:PySem.W.Frag} {F H F' H':Hp} {r:PV} {Q:VK} (w:Wv K F H r Q) (g:Grow F H F' H'):Wv K F' H' r Q:=fun v H2 F2 g2=>w v H2 F2 (g.trans g2)
theorem Wo.go {K:PySem.W.Frag} {F H F' H':Hp} {r:List PV} {Q:VK} (w:Wo K F H r Q) (g:Grow F H F' H'):Wo K F' H' r Q:=fun a vs H2 F2 g2 n=>w a vs H2 F2 (g.trans g2) (g.same.free n)
theorem Wv.of_lst {K:PySem.W.Frag} {F H:Hp} {xs:List PV} {Q:VK} (w:Wv K F H (.lst xs) Q):Wo K F H xs Q:=by
  intro a vs H' F' g n nF e r
  have gx:Same F' (upd F' a (.lst vs)):=fun b u q=>by rw [upd_ne (ne_of_none q nF)];exact q
  refine w (.ref a) H' (upd F' a (.lst vs)) ⟨g.ext.trans gx,fun b u q => ?_,g.same,fun b u q => ?_⟩ ?_
  · by_cases z:b=a
    · subst z;rw [upd_same] at q;rw [e];exact q
    · rw [upd_ne z] at q;exact g.sub b u q
  · by_cases z:b=a
    · subst z;exact .inr n
    · rw [upd_ne z] at q;exact g.new b u q
  · unfold Rep
    exact ⟨a,vs,rfl,.of upd_same,r.mono gx⟩
theorem Wv.here {K:PySem.W.Frag} {F H:Hp} {r:PV} {Q:VK} {v:V} (w:Wv K F H r Q) (h:Same F H) (q:Rep K F r v):Q v H:=w v H F (.refl h) q

noncomputable abbrev MEx:=PEnv→Option PV
noncomputable def tM (K:PySem.W.Frag) (ms:List Nat) (m:MEx):TE:=fun σ H Q=>∃ F γ r,Same F H∧ERep K F σ γ ms∧m γ=some r∧Wv K F H r Q
noncomputable def tMO (K:PySem.W.Frag) (ms:List Nat) (m:PEnv→Option (List PV)):TE:=fun σ H Q=>∃ F γ r,Same F H∧ERep K F σ γ ms∧m γ=some r∧Wo K F H r Q
noncomputable def tMT (K:PySem.W.Frag) (ms:List Nat) (m:PEnv→Option Bool):TT:=fun σ H Q=>∃ F γ r,Same F H∧ERep K F σ γ ms∧m γ=some r∧∀ H' F',Grow F H F' H'→Q r H'
noncomputable def tMA (K:PySem.W.Frag) (ms:List Nat) (m:PEnv→Option (List PV)):TA:=fun σ H Q=>∃ F γ r,Same F H∧ERep K F σ γ ms∧m γ=some r∧∀ vs H' F',Grow F H F' H'→RepL K F' r vs→Q vs H'
noncomputable def EM (X:Cx) (ms:List Nat) (e:Expr) (m:MEx):Prop:=PE X e (tM X.K ms m)
noncomputable def EO (X:Cx) (ms:List Nat) (e:Expr) (m:PEnv→Option (List PV)):Prop:=PE X e (tMO X.K ms m)
noncomputable def TM (X:Cx) (ms:List Nat) (e:Expr) (m:PEnv→Option Bool):Prop:=PT X e (tMT X.K ms m)
noncomputable def AM (X:Cx) (ms:List Nat) (es:List Expr) (m:PEnv→Option (List PV)):Prop:=PA X es (tMA X.K ms m)

section
variable {X:Cx} {e a b:Expr} {es:List Expr} {ms ns:List Nat} {m m1 m2:MEx} {pos:Pos}
theorem _root_.L2.PE.imp {t t':TE} (h:PE X e t) (i:∀ σ H Q,t' σ H Q→t σ H Q):PE X e t':=fun pins s σ H Q I q=>h pins s σ H Q I (i σ H Q q)
theorem _root_.L2.PT.imp {t t':TT} (h:PT X e t) (i:∀ σ H Q,t' σ H Q→t σ H Q):PT X e t':=fun pins s σ H Q I q=>h pins s σ H Q I (i σ H Q q)
theorem _root_.L2.PA.imp {t t':TA} (h:PA X es t) (i:∀ σ H Q,t' σ H Q→t σ H Q):PA X es t':=fun pos pins s σ H Q I q=>h pos pins s σ H Q I (i σ H Q q)
theorem _root_.L2.PS.imp {st:Stmt} {t t':TS} (h:PS X st t) (i:∀ D σ H,t' D σ H→t D σ H):PS X st t':=fun pins s σ H D I q=>h pins s σ H D I (i D σ H q)

noncomputable def mLst (m:PEnv→Option (List PV)):MEx:=fun γ=>(m γ).map PV.lst
theorem EO.em {m:PEnv→Option (List PV)} (h:EO X ms e m):EM X ms e (mLst m):=PE.imp h fun σ H Q hq9=>x3_4 hq9 fun F γ r h1 h2 h3 w=>by
  unfold mLst at h3
  cases q:m γ with
  | none=>rw [q] at h3;cases h3
  | some xs =>
    rw [q] at h3
    cases h3
    exact ⟨F,γ,xs,h1,h2,q,w.of_lst⟩

noncomputable def mVar (i:Nat):MEx:=fun γ=>getV γ i
noncomputable def mC (p:PV):MEx:=fun _=>some p
theorem em_var (i:Nat) {x:Str} (h:PE X (.Name x pos) (tVar i)):EM X [i] (.Name x pos) (mVar i):=PE.imp h fun σ H Q hq9=>x3_4 hq9 fun F γ r h1 h2 h3 w=>by
  refine x1_2 (h2 i (by simp) r h3) fun v e1 e2 => ?_
  exact ⟨v,e1,w.here h1 e2⟩
theorem em_int {i j pos}:EM X [] (.Constant (.int i) j pos) (mC (.int i)):=PE.imp pe_int fun σ H Q hq9=>x3_4 hq9 fun F γ r h1 h2 h3 w=>by
  cases h3;exact w.here h1 (by unfold Rep;rfl)
theorem em_bl {i j pos}:EM X [] (.Constant (.bool i) j pos) (mC (.bl i)):=PE.imp pe_bl fun σ H Q hq9=>x3_4 hq9 fun F γ r h1 h2 h3 w=>by
  cases h3;exact w.here h1 (by unfold Rep;rfl)
theorem em_non {j pos}:EM X [] (.Constant .none j pos) (mC .non):=PE.imp pe_non fun σ H Q hq9=>x3_4 hq9 fun F γ r h1 h2 h3 w=>by
  cases h3;exact w.here h1 (by unfold Rep;rfl)
theorem em_str {i j pos}:EM X [] (.Constant (.str i) j pos) (mC (.str i)):=PE.imp pe_str fun σ H Q hq9=>x3_4 hq9 fun F γ r h1 h2 h3 w=>by
  cases h3;exact w.here h1 (by unfold Rep;rfl)

noncomputable def rM2 (K:PySem.W.Frag) (f:PV→PV→Option PV):R2:=fun x y H Q=>∃ F p q r,Same F H∧Rep K F p x∧Rep K F q y∧f p q=some r∧Wv K F H r Q
noncomputable def rM2O (K:PySem.W.Frag) (f:PV→PV→Option (List PV)):R2:=fun x y H Q=>∃ F p q r,Same F H∧Rep K F p x∧Rep K F q y∧f p q=some r∧Wo K F H r Q
noncomputable def bin2 (f:PV→PV→Option α) (m1 m2:MEx):PEnv→Option α:=fun γ=>(m1 γ).bind fun x=>(m2 γ).bind fun y=>f x y
theorem tOp_of {K:PySem.W.Frag} {f:PV→PV→Option PV} {σ:St} {H:Hp} {Q:VK} (h:tM K (ms++ns) (bin2 f m1 m2) σ H Q):tOp (rM2 K f) (tM K ms m1) (tM K ns m2) σ H Q:=by
  refine xq fun _ kq=>?_
  refine x3_4 (h) fun F γ r h1 h2 h3 w => ?_
  apply kq
  unfold bin2 at h3
  cases e1:m1 γ with
  | none=>rw [e1] at h3;cases h3
  | some x =>
    cases e2:m2 γ with
    | none=>rw [e1,e2] at h3;cases h3
    | some y =>
      rw [e1,e2] at h3
      refine ⟨F,γ,x,h1,h2.left,e1,fun vx H1 F1 g1 r1=>⟨F1,γ,y,g1.sub,h2.right.mono g1.ext,e2,fun vy H2 F2 g2 r2 => ?_⟩⟩
      exact ⟨F2,x,y,r,g2.sub,r1.mono g2.ext,r2,h3,w.go (g1.trans g2)⟩
theorem tOpO_of {K:PySem.W.Frag} {f:PV→PV→Option (List PV)} {σ:St} {H:Hp} {Q:VK} (h:tMO K (ms++ns) (bin2 f m1 m2) σ H Q):tOp (rM2O K f) (tM K ms m1) (tM K ns m2) σ H Q:=by
  refine xq fun _ kq=>?_
  refine x3_4 (h) fun F γ r h1 h2 h3 w => ?_
  apply kq
  unfold bin2 at h3
  cases e1:m1 γ with
  | none=>rw [e1] at h3;cases h3
  | some x =>
    cases e2:m2 γ with
    | none=>rw [e1,e2] at h3;cases h3
    | some y =>
      rw [e1,e2] at h3
      refine ⟨F,γ,x,h1,h2.left,e1,fun vx H1 F1 g1 r1=>⟨F1,γ,y,g1.sub,h2.right.mono g1.ext,e2,fun vy H2 F2 g2 r2 => ?_⟩⟩
      exact ⟨F2,x,y,r,g2.sub,r1.mono g2.ext,r2,h3,w.go (g1.trans g2)⟩
noncomputable def OpM (X:Cx) (g:Value→Value→Sem Value) (f:PV→PV→Option PV):Prop:=OpR X g (rM2 X.K f)
noncomputable def OpO (X:Cx) (g:Value→Value→Sem Value) (f:PV→PV→Option (List PV)):Prop:=OpR X g (rM2O X.K f)
theorem em_op {op:Operator} {f:PV→PV→Option PV} (ho:OpM X (binaryOp op) f) (ha:EM X ms a m1) (hb:EM X ns b m2):EM X (ms++ns) (.BinOp a op b pos) (bin2 f m1 m2) :=
  PE.imp (pe_op ho ha hb) fun _ _ _ h=>tOp_of h
theorem eo_op {op:Operator} {f:PV→PV→Option (List PV)} (ho:OpO X (binaryOp op) f) (ha:EM X ms a m1) (hb:EM X ns b m2):EO X (ms++ns) (.BinOp a op b pos) (bin2 f m1 m2) :=
  PE.imp (pe_op ho ha hb) fun _ _ _ h=>tOpO_of h
theorem em_cmp {op:CmpOp} {f:PV→PV→Option PV} (ho:OpM X (compareOp op) f) (ha:EM X ms a m1) (hb:EM X ns b m2) (hm:behindInMarks op b=false):EM X (ms++ns) (.Compare a [op] [b] pos) (bin2 f m1 m2) :=
  PE.imp (pe_cmpR ho ha hb hm) fun _ _ _ h=>tOp_of h
theorem em_ix {f:PV→PV→Option PV} (ho:IxR X (rM2 X.K f)) (ha:EM X ms a m1) (hb:EM X ns b m2) (hs:PlainIx b):EM X (ms++ns) (.Subscript a b pos) (bin2 f m1 m2) :=
  PE.imp (pe_ix ho ha hb hs) fun _ _ _ h=>tOp_of h

noncomputable def isB:PV→Option Bool
  | .bl b=>some b
  | _=>none
noncomputable def truB (m:MEx):PEnv→Option Bool:=fun γ=>(m γ).bind isB
theorem tTest_of {K:PySem.W.Frag} {t:TE} {σ:St} {H:Hp} {Q:Bool→Hp→Prop} (ht:∀ Q,tM K ms m σ H Q→t σ H Q) (h:tMT K ms (truB m) σ H Q):tTest t σ H Q:=by
  refine xq fun _ kq=>?_
  refine x3_4 (h) fun F γ r h1 h2 h3 w => ?_
  apply kq
  unfold truB at h3
  cases e1:m γ with
  | none=>rw [e1] at h3;cases h3
  | some x =>
    rw [e1] at h3
    cases x with
    | bl b =>
      obtain rfl:b=r:=Option.some.inj h3
      refine ht _ ⟨F,γ,.bl b,h1,h2,e1,fun v H' F' g q => ?_⟩
      unfold Rep at q
      exact ⟨b,q,w H' F' g⟩
    | _=>cases h3
theorem tm_cmp {op:CmpOp} {f:PV→PV→Option PV} (ho:OpM X (compareOp op) f) (ha:EM X ms a m1) (hb:EM X ns b m2) (hm:behindInMarks op b=false):TM X (ms++ns) (.Compare a [op] [b] pos) (truB (bin2 f m1 m2)) :=
  PT.imp (pt_cmpR ho ha hb hm) fun _ _ _ h=>tTest_of (fun _=>tOp_of) h
end
end L2.PM

set_option Elab.async false
set_option linter.all false
set_option maxRecDepth 100000
noncomputable section
namespace L2.PM
open PySem PySem.Spec PyProof.Rows

noncomputable abbrev LIM:Nat:=1000000
theorem lim_line:LIM≤sizeLine:=by decide
theorem ite_get {α:Type} {c:Prop} [Decidable c] {a r:α} (h:(if c then some a else none)=some r):c∧a=r:=by
  by_cases k:c
  · rw [if_pos k] at h;exact ⟨k,Option.some.inj h⟩
  · rw [if_neg k] at h;cases h

section
variable {X:Cx}
noncomputable def iop (C:Int→Int→Bool) (g:Int→Int→PV):PV→PV→Option PV
  | .int i,.int j=>if C i j=true then some (g i j) else none
  | _,_=>none
theorem iop_get {C:Int→Int→Bool} {g:Int→Int→PV} {p q r:PV} (h:iop C g p q=some r):∃ i j,p = .int i∧q = .int j∧C i j=true∧r=g i j:=by
  cases p <;> cases q <;> first
    | (exfalso;cases h;done)
    | (rename_i i j
       have h:(if C i j=true then some (g i j) else none)=some r:=h
       obtain ⟨c,e⟩:=ite_get h
       exact ⟨i,j,rfl,rfl,c,e.symm⟩)
theorem opm_i {f:Value→Value→Sem Value} {C':Int→Int→Prop} {C:Int→Int→Bool} {g:Int→Int→PV} {gv:Int→Int→V} (ho:OpR X f (rI C' gv)) (hc:∀ i j,C i j=true→C' i j) (hg:∀ i j K F,Rep K F (g i j) (gv i j)):OpM X f (iop C g):=by
  intro pins s σ H x y v u Q I rx ry h
  refine xq fun _ kq=>?_
  refine x4_5 (h) fun F p q r h1 h2 h3 h4 w => ?_
  refine x2_4 (iop_get h4) fun i j zq1 zq2 c zq3 => ?_
  obtain rfl:=zq1
  obtain rfl:=zq2
  obtain rfl:=zq3
  apply kq
  unfold Rep at h2 h3
  exact ho pins s σ H x y v u Q I rx ry ⟨i,j,h2,h3,hc i j c,w.here h1 (hg i j _ _)⟩
theorem opm_i0 {f:Value→Value→Sem Value} {g:Int→Int→PV} {gv:Int→Int→V} (ho:OpR X f (rI0 gv)) (hg:∀ i j K F,Rep K F (g i j) (gv i j)):OpM X f (iop (fun _ _=>true) g):=by
  intro pins s σ H x y v u Q I rx ry h
  refine xq fun _ kq=>?_
  refine x4_5 (h) fun F p q r h1 h2 h3 h4 w => ?_
  refine x2_4 (iop_get h4) fun i j zq1 zq2 c zq3 => ?_
  obtain rfl:=zq1
  obtain rfl:=zq2
  obtain rfl:=zq3
  apply kq
  unfold Rep at h2 h3
  exact ho pins s σ H x y v u Q I rx ry ⟨i,j,h2,h3,w.here h1 (hg i j _ _)⟩
theorem rep_int {K:PySem.W.Frag} {F:Hp} (i:Int):Rep K F (.int i) (.int i):=by unfold Rep;rfl
theorem rep_bl {K:PySem.W.Frag} {F:Hp} (i:Bool):Rep K F (.bl i) (.bl i):=by unfold Rep;rfl
theorem rep_str {K:PySem.W.Frag} {F:Hp} (i:Str):Rep K F (.str i) (.str i):=by unfold Rep;rfl
theorem rep_non {K:PySem.W.Frag} {F:Hp}:Rep K F .non .non:=by unfold Rep;rfl
noncomputable def pSub:=iop (fun _ _=>true) fun i j => .int (i - j)
noncomputable def cls (p:Prop):Bool := @decide p (Classical.propDecidable p)
theorem cls_get {p:Prop} (h:cls p=true):p := @of_decide_eq_true p (Classical.propDecidable p) h
theorem cls_of {p:Prop} (h:p):cls p=true := @decide_eq_true p (Classical.propDecidable p) h
noncomputable def cMul (i j:Int):Bool:=cls (-(2 ^ 64) < i∧i < 2 ^ 64)||cls (-(2 ^ 64) < j∧j < 2 ^ 64)
noncomputable def cDiv (_ j:Int):Bool:=cls (0 < j∧j < 2 ^ 200)
noncomputable def cPos (_ j:Int):Bool:=decide (0 < j)
noncomputable def cNn (_ j:Int):Bool:=decide (0≤j)
noncomputable def cPow (i j:Int):Bool:=cls (0≤j∧j≤1000000∧i.natAbs < 2 ^ 64)
noncomputable def pMul:=iop cMul fun i j => .int (i * j)
noncomputable def pDiv:=iop cDiv fun i j => .int (i / j)
noncomputable def pMod:=iop cPos fun i j => .int (i % j)
noncomputable def pPow:=iop cPow fun i j => .int (i ^ j.toNat)
noncomputable def pShl:=iop cPow fun i j => .int (i * 2 ^ j.toNat)
noncomputable def pShr:=iop cNn fun i j => .int (i / 2 ^ j.toNat)
noncomputable def pAnd:=iop (fun _ _=>true) fun i j => .int (Builtin.bitAnd i j)
noncomputable def pOr:=iop (fun _ _=>true) fun i j => .int (Builtin.bitOr i j)
noncomputable def pLt:=iop (fun _ _=>true) fun i j => .bl (decide (i < j))
noncomputable def pLe:=iop (fun _ _=>true) fun i j => .bl (decide (i≤j))
noncomputable def pGt:=iop (fun _ _=>true) fun i j => .bl (decide (j < i))
noncomputable def pGe:=iop (fun _ _=>true) fun i j => .bl (decide (j≤i))
theorem om_sub:OpM X (binaryOp .Sub) pSub:=opm_i0 op_sub fun _ _ _ _=>rep_int _
theorem cMul_ok {i j:Int} (h:cMul i j=true):CMul i j:=by
  unfold cMul at h
  rw [Bool.or_eq_true] at h
  exact h.imp cls_get cls_get
theorem om_mul:OpM X (binaryOp .Mult) pMul:=opm_i op_mul (fun _ _ h=>cMul_ok h) fun _ _ _ _=>rep_int _
theorem div_log {j:Int} (h0:0 < j) (h:j < 2 ^ 200):j.natAbs.log2 < 9000:=by
  have h1:j.natAbs < 2 ^ 200:=by omega
  have h2:j.natAbs.log2 < 200:=(Nat.log2_lt (by omega)).mpr h1
  omega
theorem op_fdivL:OpR X (binaryOp .FloorDiv) (rI (fun _ j=>0 < j∧j < 2 ^ 200) fun i j => .int (i / j)):=opI fun i j _ _ _ _ _ hc q=>by
  have h1:(0:Int) < j:=hc.1
  exact floordiv_int (by omega) (by rw [Int.fdiv_eq_ediv_of_nonneg i (by omega)];exact q) (.inl (PyProof.noPylong_of_log2 (div_log h1 hc.2)))
theorem om_div:OpM X (binaryOp .FloorDiv) pDiv:=opm_i op_fdivL (fun _ _ h=>cls_get h) fun _ _ _ _=>rep_int _
theorem om_mod:OpM X (binaryOp .Mod) pMod:=opm_i op_mod (fun _ _ h=>of_decide_eq_true h) fun _ _ _ _=>rep_int _
theorem om_shl:OpM X (binaryOp .LShift) pShl:=opm_i op_shl (fun i j h=>cls_get (p:=0≤j∧j≤1000000∧i.natAbs < 2 ^ 64) h) fun _ _ _ _=>rep_int _
theorem om_shr:OpM X (binaryOp .RShift) pShr:=opm_i op_shr (fun _ _ h=>of_decide_eq_true h) fun _ _ _ _=>rep_int _
theorem om_and:OpM X (binaryOp .BitAnd) pAnd:=opm_i0 op_and fun _ _ _ _=>rep_int _
theorem om_or:OpM X (binaryOp .BitOr) pOr:=opm_i0 op_or fun _ _ _ _=>rep_int _
theorem om_ior:OpM X (inplaceOp .BitOr) pOr:=opm_i0 iop_or fun _ _ _ _=>rep_int _
theorem om_lt:OpM X (compareOp .Lt) pLt:=opm_i0 op_lt fun _ _ _ _=>rep_bl _
theorem om_gt:OpM X (compareOp .Gt) pGt:=opm_i0 op_gt fun _ _ _ _=>rep_bl _
theorem om_ge:OpM X (compareOp .GtE) pGe:=opm_i0 op_ge fun _ _ _ _=>rep_bl _

theorem op_catS:OpR X (binaryOp .Add) (fun x y H Q=>∃ l b xs zs,x = .ref l∧y = .ref b∧SqL X.K H l xs∧SqL X.K H b zs∧xs.length + zs.length≤sizeLine∧∀ p,H p=none→Q (.ref p) (upd H p (.lst (xs++zs)))):=by
  intro pins s σ H x y v u Q I rx ry h
  refine xq fun _ kq=>?_
  refine x4_6 (h) fun l b xs zs zq1 zq2 hH hB hz q => ?_
  obtain rfl:=zq1
  obtain rfl:=zq2
  apply kq
  cases rx
  cases ry
  refine xq fun _ kq=>?_
  refine x1_3 (I.list hH) fun its r zq1 _ => ?_
  obtain ⟨⟨cls,dd,data,sl⟩,n,e,c,_,d⟩:=zq1
  refine x1_3 (I.list hB) fun its2 r2 zq1 _ => ?_
  obtain ⟨⟨cls2,dd2,data2,sl2⟩,n2,e2,c2,_,d2⟩:=zq1
  apply kq
  simp only at c d c2 d2
  subst c d c2 d2
  have hsz:its.toArray.size + its2.toArray.size≤sizeLine:=by rw [List.size_toArray,List.size_toArray,← r.length,← r2.length];exact hz
  have ea:its.toArray++its2.toArray=(its++its2).toArray:=by simp
  refine concat_meets ⟨_,e,rfl⟩ ⟨_,e2,rfl⟩ noFill_list_add seq_list_add PySem.F.slot_list_add PySem.F.entry_list_add (PySem.F.args_list_add_2 _ _)
    (list_addW l b its.toArray its2.toArray n n2 dd dd2 sl sl2 hsz) ⟨e,e2,?_⟩
  rw [ea]
  exact ⟨.ref _,_,I.lnew (t':=s.toks) (r.append r2) (by rw [List.length_append];omega),rfl,q _ I.fresh⟩
noncomputable def pCat:PV→PV→Option (List PV)
  | .lst a,.lst b=>if a.length + b.length≤LIM then some (a++b) else none
  | _,_=>none
theorem oo_cat:OpO X (binaryOp .Add) pCat:=by
  intro pins s σ H x y v u Q I rx ry h
  refine xq fun _ kq=>?_
  refine x4_5 (h) fun F p q r h1 h2 h3 h4 w => ?_
  apply kq
  cases p <;> cases q <;> first
    | (exfalso;cases h4;done)
    | skip
  rename_i xs ys
  have h4:(if xs.length + ys.length≤LIM then some (xs++ys) else none)=some r:=h4
  obtain ⟨c,rfl⟩:=ite_get h4
  unfold Rep at h2 h3
  refine xq fun _ kq=>?_
  refine x2_3 (h2) fun a vs zq1 sa ra => ?_
  obtain rfl:=zq1
  refine x2_3 (h3) fun b us zq1 sb rb => ?_
  obtain rfl:=zq1
  apply kq
  refine op_catS pins s σ H _ _ v u Q I rx ry ⟨a,b,vs,us,rfl,rfl,h1.seq sa,h1.seq sb,by rw [ra.length,rb.length];exact Nat.le_trans c lim_line,fun p hp => ?_⟩
  have nF:F p=none:=h1.free hp
  exact w p _ _ F (.side h1 hp) hp nF upd_same (ra.append rb)
noncomputable def pAdd:PV→PV→Option PV
  | .int i,.int j=>some (.int (i + j))
  | .str a,.str b=>if a.length + b.length≤LIM then some (.str (a++b)) else none
  | _,_=>none
theorem om_add:OpM X (binaryOp .Add) pAdd:=by
  intro pins s σ H x y v u Q I rx ry h
  refine xq fun _ kq=>?_
  refine x4_5 (h) fun F p q r h1 h2 h3 h4 w => ?_
  apply kq
  cases p <;> cases q <;> first
    | (exfalso;cases h4;done)
    | skip
  · cases h4
    unfold Rep at h2 h3
    exact op_add pins s σ H x y v u Q I rx ry ⟨_,_,h2,h3,w.here h1 (rep_int _)⟩
  · rename_i a b
    have h4:(if a.length + b.length≤LIM then some (PV.str (a++b)) else none)=some r:=h4
    obtain ⟨c,rfl⟩:=ite_get h4
    unfold Rep at h2 h3
    exact op_add_str pins s σ H x y v u Q I rx ry ⟨_,_,h2,h3,Nat.le_trans c lim_line,w.here h1 (rep_str _)⟩
end
end L2.PM

set_option Elab.async false
set_option linter.all false
set_option maxRecDepth 100000
noncomputable section
namespace L2.PM
open PySem PySem.Spec PyProof.Rows

mutual
noncomputable def peq:PV→PV→Bool
  | .non,.non=>true
  | .bl a,.bl b=>a==b
  | .bl a,.int b=>(if a then 1 else 0)==b
  | .int a,.bl b=>a==(if b then 1 else 0)
  | .int a,.int b=>a==b
  | .str a,.str b=>a==b
  | .tup xs,.tup ys=>peqL xs ys
  | .lst xs,.lst ys=>peqL xs ys
  | .obj C ks ps,.obj D ls qs=>(C==D&&ks==ls)&&peqL ps qs
  | .opq a,.opq b=>a==b
  | _,_=>false
noncomputable def peqL:List PV→List PV→Bool
  | [],[]=>true
  | x :: xs,y :: ys=>peq x y&&peqL xs ys
  | _,_=>false
end
mutual
noncomputable def dep:PV→Nat
  | .tup xs=>depL xs + 1
  | .lst xs=>depL xs + 1
  | .obj _ _ _=>1000
  | .opq _=>1000
  | _=>0
noncomputable def depL:List PV→Nat
  | []=>0
  | x :: xs=>max (dep x) (depL xs)
end
theorem depL_get:∀ {xs:List PV} {j:Nat} {p:PV},xs[j]?=some p→dep p≤depL xs
  | [],_,_,e=>by simp at e
  | x :: xs,0,p,e=>by
    simp at e;subst e
    unfold depL
    exact Nat.le_max_left _ _
  | x :: xs,j + 1,p,e=>by
    have:=depL_get (xs:=xs) (j:=j) (by simpa using e)
    unfold depL
    exact Nat.le_trans this (Nat.le_max_right _ _)
mutual
theorem peq_refl:∀ p:PV,peq p p=true
  | .non=>by simp [peq]
  | .bl _=>by simp [peq]
  | .int _=>by simp [peq]
  | .str _=>by simp [peq]
  | .tup xs=>by unfold peq;exact peqL_refl xs
  | .lst xs=>by unfold peq;exact peqL_refl xs
  | .obj C ks ps=>by unfold peq;rw [peqL_refl ps];simp
  | .opq _=>by simp [peq]
theorem peqL_refl:∀ xs:List PV,peqL xs xs=true
  | []=>by simp [peqL]
  | x :: xs=>by
    unfold peqL
    rw [peq_refl x,peqL_refl xs]
    rfl
end
noncomputable def eAt (xs ys:List PV) (j:Nat):Bool:=match xs[j]?,ys[j]? with
  | some p,some q=>peq p q
  | _,_=>true
theorem range_all_succ (n:Nat) (e:Nat→Bool):(List.range (n + 1)).all e=(e 0&&(List.range n).all fun j=>e (j + 1)):=by
  rw [List.range_succ_eq_map,List.all_cons,List.all_map]
  rfl
theorem peqL_range:∀ (xs ys:List PV),((List.range (min xs.length ys.length)).all (eAt xs ys)&&(xs.length==ys.length))=peqL xs ys
  | [],[]=>by simp [peqL]
  | [],y :: ys=>by simp [peqL]
  | x :: xs,[]=>by simp [peqL]
  | x :: xs,y :: ys=>by
    have ih:=peqL_range xs ys
    unfold peqL
    rw [← ih]
    have e1:min (x :: xs).length (y :: ys).length=min xs.length ys.length + 1:=by
      simp only [List.length_cons];omega
    rw [e1,range_all_succ]
    have e2:eAt (x :: xs) (y :: ys) 0=peq x y:=by simp [eAt]
    have e3:(fun j=>eAt (x :: xs) (y :: ys) (j + 1))=eAt xs ys:=by
      funext j
      simp [eAt]
    have e4:((x :: xs).length==(y :: ys).length)=(xs.length==ys.length):=by
      rw [Bool.eq_iff_iff];simp
    rw [e2,e3,e4,Bool.and_assoc]

section
variable {X:Cx} {pins:List (Addr×Obj)} {σ:St} {H F:Hp} {s:Shared}
mutual
theorem Rep.inj (I:Inv X pins σ H s) (hF:Same F H):∀ {p q:PV} {v:V},dep p < 1000→dep q < 1000→Rep X.K F p v→Rep X.K F q v→p=q
  | .non,q,v,_,dq,h,k=>by
    unfold Rep at h;subst h
    cases q <;> unfold Rep at k <;> first | rfl | (cases k;done) | (obtain ⟨_,_,k,_⟩:=k;cases k;done) | (obtain ⟨_,_,_,k,_⟩:=k;cases k;done)
  | .bl b,q,v,_,dq,h,k=>by
    unfold Rep at h;subst h
    cases q <;> unfold Rep at k <;> first | (cases k;done) | (cases k;rfl) | (obtain ⟨_,_,k,_⟩:=k;cases k;done) | (obtain ⟨_,_,_,k,_⟩:=k;cases k;done)
  | .int b,q,v,_,dq,h,k=>by
    unfold Rep at h;subst h
    cases q <;> unfold Rep at k <;> first | (cases k;done) | (cases k;rfl) | (obtain ⟨_,_,k,_⟩:=k;cases k;done) | (obtain ⟨_,_,_,k,_⟩:=k;cases k;done)
  | .str b,q,v,_,dq,h,k=>by
    unfold Rep at h;subst h
    cases q <;> unfold Rep at k <;> first | (cases k;done) | (cases k;rfl) | (obtain ⟨_,_,k,_⟩:=k;cases k;done) | (obtain ⟨_,_,_,k,_⟩:=k;cases k;done)
  | .tup xs,q,v,dp,dq,h,k=>by
    unfold Rep at h
    refine xq fun _ kq=>?_
    refine x2_3 (h) fun a vs zq1 h2 h3 => ?_
    obtain rfl:=zq1
    apply kq
    cases q with
    | tup ys =>
      unfold Rep at k
      refine xq fun _ kq=>?_
      refine x2_3 (k) fun b us e k2 k3 => ?_
      apply kq
      cases e
      have e:=I.tuple_inj (hF.seqT h2) (hF.seqT k2)
      subst e
      unfold dep at dp dq
      rw [RepL.inj I hF (by omega) (by omega) h3 k3]
    | lst ys =>
      unfold Rep at k
      refine xq fun _ kq=>?_
      refine x2_3 (k) fun b us e k2 k3 => ?_
      apply kq
      cases e
      refine xq fun _ kq=>?_
      refine x1_3 (I.tuple (hF.seqT h2)) fun its _ p1 _ => ?_
      refine x1_3 (I.list (hF.seq k2)) fun its2 _ p2 _ => ?_
      apply kq
      exact absurd rfl (PySem.SeqAt.ne_of_list_tuple p2.isList p1)
    | obj C ks ps=>unfold dep at dq;omega
    | opq b=>unfold dep at dq;omega
    | _=>unfold Rep at k;cases k
  | .lst xs,q,v,dp,dq,h,k=>by
    unfold Rep at h
    refine xq fun _ kq=>?_
    refine x2_3 (h) fun a vs zq1 h2 h3 => ?_
    obtain rfl:=zq1
    apply kq
    cases q with
    | lst ys =>
      unfold Rep at k
      refine xq fun _ kq=>?_
      refine x2_3 (k) fun b us e k2 k3 => ?_
      apply kq
      cases e
      have e:=I.list_inj (hF.seq h2) (hF.seq k2)
      subst e
      unfold dep at dp dq
      rw [RepL.inj I hF (by omega) (by omega) h3 k3]
    | tup ys =>
      unfold Rep at k
      refine xq fun _ kq=>?_
      refine x2_3 (k) fun b us e k2 k3 => ?_
      apply kq
      cases e
      refine xq fun _ kq=>?_
      refine x1_3 (I.list (hF.seq h2)) fun its _ p1 _ => ?_
      refine x1_3 (I.tuple (hF.seqT k2)) fun its2 _ p2 _ => ?_
      apply kq
      exact absurd rfl (PySem.SeqAt.ne_of_list_tuple p1.isList p2)
    | obj C ks ps=>unfold dep at dq;omega
    | opq b=>unfold dep at dq;omega
    | _=>unfold Rep at k;cases k
  | .obj C ks ps,q,v,dp,dq,h,k=>by unfold dep at dp;omega
  | .opq a,q,v,dp,dq,h,k=>by unfold dep at dp;omega
theorem RepL.inj (I:Inv X pins σ H s) (hF:Same F H):∀ {ps qs:List PV} {vs:List V},depL ps < 1000→depL qs < 1000→RepL X.K F ps vs→RepL X.K F qs vs→ps=qs
  | [],qs,vs,dp,dq,h,k=>by
    unfold RepL at h;subst h
    cases qs with
    | nil=>rfl
    | cons q qs=>unfold RepL at k;obtain ⟨_,_,k,_⟩:=k;cases k
  | p :: ps,qs,vs,dp,dq,h,k=>by
    unfold RepL at h
    refine xq fun _ kq=>?_
    refine x2_3 (h) fun v r zq1 h2 h3 => ?_
    obtain rfl:=zq1
    apply kq
    cases qs with
    | nil=>unfold RepL at k;cases k
    | cons q qs =>
      unfold RepL at k
      refine xq fun _ kq=>?_
      refine x2_3 (k) fun v' r' e k2 k3 => ?_
      apply kq
      cases e
      unfold depL at dp dq
      rw [Rep.inj I hF (by omega) (by omega) h2 k2,RepL.inj I hF (by omega) (by omega) h3 k3]
end

theorem eqAt_rep (I:Inv X pins σ H s) (hF:Same F H):∀ (n:Nat) (A:Around) (p q:PV) (v u:V) (x y:Value),dep p≤n→n≤900→dep q < 1000→A.units + n < cLine→Rep X.K F p v→Rep X.K F q u→RelV v x→RelV u y→SeqAt.EqAt A s x y (peq p q):=by
  intro n
  induction n with
  | zero =>
    intro A p q v u x y hd hn hdq hu hp hq rx ry
    cases p with
    | tup xs=>unfold dep at hd;omega
    | lst xs=>unfold dep at hd;omega
    | obj C ks ps=>unfold dep at hd;omega
    | opq b=>unfold dep at hd;omega
    | non =>
      unfold Rep at hp;subst hp;cases rx
      cases q with
      | obj D ls qs=>unfold dep at hdq;omega
      | opq b=>unfold dep at hdq;omega
      | non=>unfold Rep at hq;subst hq;cases ry;simp only [peq];exact SeqAt.EqAt.same _
      | bl b=>unfold Rep at hq;subst hq;cases ry;simp only [peq];exact SeqAt.EqAt.none_bool b
      | int b=>unfold Rep at hq;subst hq;obtain ⟨t,rfl⟩:=ry;simp only [peq];exact SeqAt.EqAt.none_int b t
      | str b=>unfold Rep at hq;subst hq;obtain ⟨t,rfl⟩:=ry;simp only [peq];exact SeqAt.EqAt.none_str b t
      | tup ys =>
        unfold Rep at hq;obtain ⟨b,us,rfl,k2,k3⟩:=hq;cases ry
        refine xq fun _ kq=>?_
        refine x1_3 (I.tuple (hF.seqT k2)) fun its _ p1 _ => ?_
        apply kq
        simp only [peq];exact SeqAt.EqAt.none_tuple p1 (by omega)
      | lst ys =>
        unfold Rep at hq;obtain ⟨b,us,rfl,k2,k3⟩:=hq;cases ry
        refine xq fun _ kq=>?_
        refine x1_3 (I.list (hF.seq k2)) fun its _ p1 _ => ?_
        apply kq
        simp only [peq];exact SeqAt.EqAt.none_list p1.isList (by omega)
    | bl a =>
      unfold Rep at hp;subst hp;cases rx
      cases q with
      | obj D ls qs=>unfold dep at hdq;omega
      | opq b=>unfold dep at hdq;omega
      | non=>unfold Rep at hq;subst hq;cases ry;simp only [peq];exact SeqAt.EqAt.bool_none a
      | bl b=>unfold Rep at hq;subst hq;cases ry;simp only [peq];exact SeqAt.EqAt.bool_bool a b
      | int b=>unfold Rep at hq;subst hq;obtain ⟨t,rfl⟩:=ry;simp only [peq];exact SeqAt.EqAt.bool_int a b t
      | str b=>unfold Rep at hq;subst hq;obtain ⟨t,rfl⟩:=ry;simp only [peq];exact SeqAt.EqAt.bool_str a b t
      | tup ys =>
        unfold Rep at hq;obtain ⟨b,us,rfl,k2,k3⟩:=hq;cases ry
        refine xq fun _ kq=>?_
        refine x1_3 (I.tuple (hF.seqT k2)) fun its _ p1 _ => ?_
        apply kq
        simp only [peq];exact SeqAt.EqAt.bool_tuple a p1 (by omega)
      | lst ys =>
        unfold Rep at hq;obtain ⟨b,us,rfl,k2,k3⟩:=hq;cases ry
        refine xq fun _ kq=>?_
        refine x1_3 (I.list (hF.seq k2)) fun its _ p1 _ => ?_
        apply kq
        simp only [peq];exact SeqAt.EqAt.bool_list a p1.isList (by omega)
    | int a =>
      unfold Rep at hp;subst hp;obtain ⟨t',rfl⟩:=rx
      cases q with
      | obj D ls qs=>unfold dep at hdq;omega
      | opq b=>unfold dep at hdq;omega
      | non=>unfold Rep at hq;subst hq;cases ry;simp only [peq];exact SeqAt.EqAt.int_none a t'
      | bl b=>unfold Rep at hq;subst hq;cases ry;simp only [peq];exact SeqAt.EqAt.int_bool a t' b
      | int b=>unfold Rep at hq;subst hq;obtain ⟨t,rfl⟩:=ry;simp only [peq];exact SeqAt.EqAt.int_int a t' b t
      | str b=>unfold Rep at hq;subst hq;obtain ⟨t,rfl⟩:=ry;simp only [peq];exact SeqAt.EqAt.int_str a t' b t
      | tup ys =>
        unfold Rep at hq;obtain ⟨b,us,rfl,k2,k3⟩:=hq;cases ry
        refine xq fun _ kq=>?_
        refine x1_3 (I.tuple (hF.seqT k2)) fun its _ p1 _ => ?_
        apply kq
        simp only [peq];exact SeqAt.EqAt.int_tuple a t' p1 (by omega)
      | lst ys =>
        unfold Rep at hq;obtain ⟨b,us,rfl,k2,k3⟩:=hq;cases ry
        refine xq fun _ kq=>?_
        refine x1_3 (I.list (hF.seq k2)) fun its _ p1 _ => ?_
        apply kq
        simp only [peq];exact SeqAt.EqAt.int_list a t' p1.isList (by omega)
    | str a =>
      unfold Rep at hp;subst hp;obtain ⟨t',rfl⟩:=rx
      cases q with
      | obj D ls qs=>unfold dep at hdq;omega
      | opq b=>unfold dep at hdq;omega
      | non=>unfold Rep at hq;subst hq;cases ry;simp only [peq];exact SeqAt.EqAt.str_none a t'
      | bl b=>unfold Rep at hq;subst hq;cases ry;simp only [peq];exact SeqAt.EqAt.str_bool a t' b
      | int b=>unfold Rep at hq;subst hq;obtain ⟨t,rfl⟩:=ry;simp only [peq];exact SeqAt.EqAt.str_int a t' b t
      | str b=>unfold Rep at hq;subst hq;obtain ⟨t,rfl⟩:=ry;simp only [peq];exact SeqAt.EqAt.str_str a t' b t
      | tup ys =>
        unfold Rep at hq;obtain ⟨b,us,rfl,k2,k3⟩:=hq;cases ry
        refine xq fun _ kq=>?_
        refine x1_3 (I.tuple (hF.seqT k2)) fun its _ p1 _ => ?_
        apply kq
        simp only [peq];exact SeqAt.EqAt.str_tuple a t' p1 (by omega)
      | lst ys =>
        unfold Rep at hq;obtain ⟨b,us,rfl,k2,k3⟩:=hq;cases ry
        refine xq fun _ kq=>?_
        refine x1_3 (I.list (hF.seq k2)) fun its _ p1 _ => ?_
        apply kq
        simp only [peq];exact SeqAt.EqAt.str_list a t' p1.isList (by omega)
  | succ n ih =>
    intro A p q v u x y hd hn hdq hu hp hq rx ry
    by_cases hd0:dep p≤n
    · exact ih A p q v u x y hd0 (by omega) hdq (by omega) hp hq rx ry
    · have hN:A.units < cLine:=by omega
      cases p with
      | tup xs =>
        unfold Rep at hp
        refine xq fun _ kq=>?_
        refine x2_3 (hp) fun a vs zq1 h2 h3 => ?_
        obtain rfl:=zq1
        apply kq
        cases rx
        have hdx:depL xs≤n:=by unfold dep at hd;omega
        refine xq fun _ kq=>?_
        refine x1_3 (I.tuple (hF.seqT h2)) fun its rv p1 z1 => ?_
        apply kq
        cases q with
        | obj D ls qs=>unfold dep at hdq;omega
        | opq b=>unfold dep at hdq;omega
        | non=>unfold Rep at hq;subst hq;cases ry;simp only [peq];exact SeqAt.EqAt.tuple_none p1 hN
        | bl b=>unfold Rep at hq;subst hq;cases ry;simp only [peq];exact SeqAt.EqAt.tuple_bool b p1 hN
        | int b=>unfold Rep at hq;subst hq;obtain ⟨t,rfl⟩:=ry;simp only [peq];exact SeqAt.EqAt.tuple_int b t p1 hN
        | str b=>unfold Rep at hq;subst hq;obtain ⟨t,rfl⟩:=ry;simp only [peq];exact SeqAt.EqAt.tuple_str b t p1 hN
        | lst ys =>
          unfold Rep at hq;obtain ⟨b,us,rfl,k2,k3⟩:=hq;cases ry
          refine xq fun _ kq=>?_
          refine x1_3 (I.list (hF.seq k2)) fun its2 _ p2 _ => ?_
          apply kq
          simp only [peq];exact SeqAt.EqAt.tuple_list p1 p2.isList hN
        | tup ys =>
          unfold Rep at hq;obtain ⟨b,us,rfl,k2,k3⟩:=hq;cases ry
          refine xq fun _ kq=>?_
          refine x1_3 (I.tuple (hF.seqT k2)) fun its2 ru p2 z2 => ?_
          apply kq
          simp only [peq]
          by_cases hab:a=b
          · subst hab
            have e:=I.tuple_inj (hF.seqT h2) (hF.seqT k2)
            subst e
            rw [RepL.inj I hF (by omega) (by unfold dep at hdq;omega) h3 k3,peqL_refl]
            exact SeqAt.EqAt.same _
          · have l1:its.toArray.size=xs.length:=by rw [List.size_toArray,← rv.length,h3.length]
            have l2:its2.toArray.size=ys.length:=by rw [List.size_toArray,← ru.length,k3.length]
            have key:=SeqAt.RcAt.tuples (A:=A) (s:=s) (e:=eAt xs ys) p1 p2 hN fun j j1 j2 => ?_
            · rw [l1,l2,peqL_range] at key
              exact SeqAt.EqAt.of_refs hab key
            · have j1':j < xs.length:=by rw [← l1];exact j1
              have j2':j < ys.length:=by rw [← l2];exact j2
              have e1:xs[j]?=some xs[j]:=by simp [j1']
              have e2:ys[j]?=some ys[j]:=by simp [j2']
              refine xq fun _ kq=>?_
              refine x1_2 (h3.get e1) fun v1 ev1 rp1 => ?_
              refine x1_2 (k3.get e2) fun v2 ev2 rp2 => ?_
              refine x1_2 (rv.get ev1) fun w1 ew1 rw1 => ?_
              refine x1_2 (ru.get ev2) fun w2 ew2 rw2 => ?_
              apply kq
              have q1:its.toArray[j]=w1:=by simpa using (List.getElem?_eq_some_iff.mp ew1).2
              have q2:its2.toArray[j]=w2:=by simpa using (List.getElem?_eq_some_iff.mp ew2).2
              have e3:eAt xs ys j=peq xs[j] ys[j]:=by unfold eAt;rw [e1,e2]
              rw [q1,q2,e3]
              exact ih A.in1 _ _ v1 v2 w1 w2 (Nat.le_trans (depL_get e1) hdx) (by omega) (by have:=depL_get e2;unfold dep at hdq;omega) (by show A.units + 1 + n < cLine;omega) rp1 rp2 rw1 rw2
      | lst xs =>
        unfold Rep at hp
        refine xq fun _ kq=>?_
        refine x2_3 (hp) fun a vs zq1 h2 h3 => ?_
        obtain rfl:=zq1
        apply kq
        cases rx
        have hdx:depL xs≤n:=by unfold dep at hd;omega
        refine xq fun _ kq=>?_
        refine x1_3 (I.list (hF.seq h2)) fun its rv p1 z1 => ?_
        apply kq
        cases q with
        | obj D ls qs=>unfold dep at hdq;omega
        | opq b=>unfold dep at hdq;omega
        | non=>unfold Rep at hq;subst hq;cases ry;simp only [peq];exact SeqAt.EqAt.list_none p1.isList hN
        | bl b=>unfold Rep at hq;subst hq;cases ry;simp only [peq];exact SeqAt.EqAt.list_bool b p1.isList hN
        | int b=>unfold Rep at hq;subst hq;obtain ⟨t,rfl⟩:=ry;simp only [peq];exact SeqAt.EqAt.list_int b t p1.isList hN
        | str b=>unfold Rep at hq;subst hq;obtain ⟨t,rfl⟩:=ry;simp only [peq];exact SeqAt.EqAt.list_str b t p1.isList hN
        | tup ys =>
          unfold Rep at hq;obtain ⟨b,us,rfl,k2,k3⟩:=hq;cases ry
          refine xq fun _ kq=>?_
          refine x1_3 (I.tuple (hF.seqT k2)) fun its2 _ p2 _ => ?_
          apply kq
          simp only [peq];exact SeqAt.EqAt.list_tuple p1.isList p2 hN
        | lst ys =>
          unfold Rep at hq;obtain ⟨b,us,rfl,k2,k3⟩:=hq;cases ry
          refine xq fun _ kq=>?_
          refine x1_3 (I.list (hF.seq k2)) fun its2 ru p2 z2 => ?_
          apply kq
          simp only [peq]
          by_cases hab:a=b
          · subst hab
            have e:=I.list_inj (hF.seq h2) (hF.seq k2)
            subst e
            rw [RepL.inj I hF (by omega) (by unfold dep at hdq;omega) h3 k3,peqL_refl]
            exact SeqAt.EqAt.same _
          · have l1:its.toArray.size=xs.length:=by rw [List.size_toArray,← rv.length,h3.length]
            have l2:its2.toArray.size=ys.length:=by rw [List.size_toArray,← ru.length,k3.length]
            by_cases hl:xs.length=ys.length
            · have key:=SeqAt.RcAt.lists (A:=A) (s:=s) (e:=eAt xs ys) p1.isList p2.isList (by rw [l1,l2,hl]) hN fun j j1 j2 => ?_
              · have e5:=peqL_range xs ys
                rw [← hl,Nat.min_self,beq_self_eq_true,Bool.and_true] at e5
                rw [l1,e5] at key
                exact SeqAt.EqAt.of_refs hab key
              · have j1':j < xs.length:=by rw [← l1];exact j1
                have j2':j < ys.length:=by rw [← l2];exact j2
                have e1:xs[j]?=some xs[j]:=by simp [j1']
                have e2:ys[j]?=some ys[j]:=by simp [j2']
                refine xq fun _ kq=>?_
                refine x1_2 (h3.get e1) fun v1 ev1 rp1 => ?_
                refine x1_2 (k3.get e2) fun v2 ev2 rp2 => ?_
                refine x1_2 (rv.get ev1) fun w1 ew1 rw1 => ?_
                refine x1_2 (ru.get ev2) fun w2 ew2 rw2 => ?_
                apply kq
                have q1:its.toArray[j]=w1:=by simpa using (List.getElem?_eq_some_iff.mp ew1).2
                have q2:its2.toArray[j]=w2:=by simpa using (List.getElem?_eq_some_iff.mp ew2).2
                have e3:eAt xs ys j=peq xs[j] ys[j]:=by unfold eAt;rw [e1,e2]
                rw [q1,q2,e3]
                exact ih A.in1 _ _ v1 v2 w1 w2 (Nat.le_trans (depL_get e1) hdx) (by omega) (by have:=depL_get e2;unfold dep at hdq;omega) (by show A.units + 1 + n < cLine;omega) rp1 rp2 rw1 rw2
            · have e5:=peqL_range xs ys
              rw [(beq_eq_false_iff_ne (a:=xs.length) (b:=ys.length)).mpr hl,Bool.and_false] at e5
              rw [← e5]
              exact SeqAt.EqAt.of_refs hab (SeqAt.RcAt.lists_lengths p1.isList p2.isList (by rw [l1,l2];simpa using hl) hN)
      | obj C ks ps=>unfold dep at hd;omega
      | opq b=>unfold dep at hd;omega
      | _=>unfold dep at hd0;omega

mutual
noncomputable def toD:PV→PyData
  | .non => .none
  | .bl b => .bool b
  | .int i => .int i
  | .str x => .str x
  | .tup xs => .tuple (toDL xs)
  | .lst xs => .list (toDL xs)
  | .obj _ _ _ => .none
  | .opq _ => .none
noncomputable def toDL:List PV→List PyData
  | []=>[]
  | x :: xs=>toD x :: toDL xs
end
mutual
noncomputable def okS:PV→Bool
  | .str x=>PyData.strOk x
  | .tup xs=>okSL xs
  | .lst xs=>okSL xs
  | _=>true
noncomputable def okSL:List PV→Bool
  | []=>true
  | x :: xs=>okS x&&okSL xs
end
noncomputable def okv (p:PV):Bool:=decide (dep p≤50)&&okS p
mutual
theorem canLay_toD:∀ p:PV,okS p=true→(toD p).canLay0=true
  | .non,_=>by simp [toD,PyData.canLay0]
  | .bl _,_=>by simp [toD,PyData.canLay0]
  | .int _,_=>by simp [toD,PyData.canLay0]
  | .str x,h=>by simpa [toD,PyData.canLay0,okS] using h
  | .tup xs,h=>by
    unfold toD PyData.canLay0
    exact canLay_toDL xs (by simpa [okS] using h)
  | .lst xs,h=>by
    unfold toD PyData.canLay0
    exact canLay_toDL xs (by simpa [okS] using h)
  | .obj _ _ _,_=>by simp [toD,PyData.canLay0]
  | .opq _,_=>by simp [toD,PyData.canLay0]
theorem canLay_toDL:∀ xs:List PV,okSL xs=true→PyData.canLayAll0 (toDL xs)=true
  | [],_=>by simp [toDL,PyData.canLayAll0]
  | x :: xs,h=>by
    unfold okSL at h
    rw [Bool.and_eq_true] at h
    unfold toDL PyData.canLayAll0
    rw [canLay_toD x h.1,canLay_toDL xs h.2]
    rfl
end
mutual
theorem depth_toD:∀ p:PV,(toD p).depth≤dep p + 1
  | .non=>by simp [toD,PyData.depth]
  | .bl _=>by simp [toD,PyData.depth]
  | .int _=>by simp [toD,PyData.depth]
  | .str x=>by simp [toD,PyData.depth]
  | .tup xs=>by
    have:=depth_toDL xs
    simp only [toD,PyData.depth,dep]
    omega
  | .lst xs=>by
    have:=depth_toDL xs
    simp only [toD,PyData.depth,dep]
    omega
  | .obj _ _ _=>by simp [toD,PyData.depth]
  | .opq _=>by simp [toD,PyData.depth]
theorem depth_toDL:∀ xs:List PV,PyData.depthAll (toDL xs)≤depL xs + 1
  | []=>by simp [toDL,PyData.depthAll]
  | x :: xs=>by
    have h1:=depth_toD x
    have h2:=depth_toDL xs
    simp only [toDL,PyData.depthAll,depL]
    omega
end
theorem shaped_toD {p:PV} (h:okv p=true):SeqAt.shaped (toD p)=true:=by
  unfold okv at h
  rw [Bool.and_eq_true,decide_eq_true_iff] at h
  have h1:=depth_toD p
  unfold SeqAt.shaped
  rw [canLay_toD p h.2,Bool.true_and,decide_eq_true_iff]
  omega
mutual
theorem eqv_toD:∀ p q:PV,dep p < 1000→dep q < 1000→PyData.eqv (toD p) (toD q)=peq p q
  | .non,q,_,hq=>by cases q <;> first | (simp [toD,PyData.eqv,peq];done) | (exfalso;unfold dep at hq;omega)
  | .bl _,q,_,hq=>by cases q <;> first | (simp [toD,PyData.eqv,peq];done) | (exfalso;unfold dep at hq;omega)
  | .int _,q,_,hq=>by cases q <;> first | (simp [toD,PyData.eqv,peq];done) | (exfalso;unfold dep at hq;omega)
  | .str _,q,_,hq=>by cases q <;> first | (simp [toD,PyData.eqv,peq];done) | (exfalso;unfold dep at hq;omega)
  | .tup xs,q,hp,hq=>by
    cases q with
    | tup ys=>simp only [toD,PyData.eqv,peq];exact eqv_toDL xs ys (by unfold dep at hp;omega) (by unfold dep at hq;omega)
    | obj=>exfalso;unfold dep at hq;omega
    | opq=>exfalso;unfold dep at hq;omega
    | _=>simp [toD,PyData.eqv,peq]
  | .lst xs,q,hp,hq=>by
    cases q with
    | lst ys=>simp only [toD,PyData.eqv,peq];exact eqv_toDL xs ys (by unfold dep at hp;omega) (by unfold dep at hq;omega)
    | obj=>exfalso;unfold dep at hq;omega
    | opq=>exfalso;unfold dep at hq;omega
    | _=>simp [toD,PyData.eqv,peq]
  | .obj _ _ _,q,hp,_=>by exfalso;unfold dep at hp;omega
  | .opq _,q,hp,_=>by exfalso;unfold dep at hp;omega
theorem eqv_toDL:∀ xs ys:List PV,depL xs < 1000→depL ys < 1000→PyData.eqvAll (toDL xs) (toDL ys)=peqL xs ys
  | [],[],_,_=>by simp [toDL,PyData.eqvAll,peqL]
  | [],_ :: _,_,_=>by simp [toDL,PyData.eqvAll,peqL]
  | _ :: _,[],_,_=>by simp [toDL,PyData.eqvAll,peqL]
  | x :: xs,y :: ys,h1,h2=>by
    simp only [toDL,PyData.eqvAll,peqL]
    unfold depL at h1 h2
    rw [eqv_toD x y (by omega) (by omega),eqv_toDL xs ys (by omega) (by omega)]
end
mutual
theorem Rep.reads (I:Inv X pins σ H s) (hF:Same F H):∀ {p:PV} {v:V} {u:Value},dep p < 1000→Rep X.K F p v→RelV v u→∃ as,Reads s.heap u (toD p) as
  | .non,v,u,_,h,r=>by unfold Rep at h;subst h;cases r;exact ⟨_,by unfold toD;exact .none⟩
  | .bl b,v,u,_,h,r=>by unfold Rep at h;subst h;cases r;exact ⟨_,by unfold toD;exact .bool b⟩
  | .int b,v,u,_,h,r=>by unfold Rep at h;subst h;obtain ⟨t,rfl⟩:=r;exact ⟨_,by unfold toD;exact .int b t⟩
  | .str b,v,u,_,h,r=>by unfold Rep at h;subst h;obtain ⟨t,rfl⟩:=r;exact ⟨_,by unfold toD;exact .str b t⟩
  | .tup xs,v,u,hd',h,r=>by
    unfold Rep at h
    refine xq fun _ kq=>?_
    refine x2_3 (h) fun a vs zq1 h2 h3 => ?_
    obtain rfl:=zq1
    apply kq
    cases r
    refine xq fun _ kq=>?_
    refine x1_3 (I.tuple (hF.seqT h2)) fun its rv zq1 _ => ?_
    obtain ⟨o,ho,hc,n,hd⟩:=zq1
    apply kq
    obtain ⟨as,ra⟩:=RepL.reads I hF (by unfold dep at hd';omega) h3 rv
    unfold toD
    exact ⟨_,.tuple ho hc hd (by simpa using ra)⟩
  | .lst xs,v,u,hd',h,r=>by
    unfold Rep at h
    refine xq fun _ kq=>?_
    refine x2_3 (h) fun a vs zq1 h2 h3 => ?_
    obtain rfl:=zq1
    apply kq
    cases r
    refine xq fun _ kq=>?_
    refine x1_3 (I.list (hF.seq h2)) fun its rv zq1 _ => ?_
    obtain ⟨o,n,ho,hc,_,hd⟩:=zq1
    apply kq
    obtain ⟨as,ra⟩:=RepL.reads I hF (by unfold dep at hd';omega) h3 rv
    unfold toD
    exact ⟨_,.list ho hc hd (by simpa using ra)⟩
  | .obj _ _ _,v,u,hd',_,_=>by exfalso;unfold dep at hd';omega
  | .opq _,v,u,hd',_,_=>by exfalso;unfold dep at hd';omega
theorem RepL.reads (I:Inv X pins σ H s) (hF:Same F H):∀ {ps:List PV} {vs:List V} {us:List Value},depL ps < 1000→RepL X.K F ps vs→Vals vs us→∃ as,ReadsAll s.heap us (toDL ps) as
  | [],vs,us,_,h,r=>by
    unfold RepL at h;subst h;cases r
    exact ⟨[],by unfold toDL;exact .nil⟩
  | p :: ps,vs,us,hd',h,r=>by
    unfold depL at hd'
    unfold RepL at h
    refine xq fun _ kq=>?_
    refine x2_3 (h) fun v t zq1 h2 h3 => ?_
    obtain rfl:=zq1
    apply kq
    cases r with
    | cons r1 r2 =>
      obtain ⟨a1,q1⟩:=Rep.reads I hF (by omega) h2 r1
      obtain ⟨a2,q2⟩:=RepL.reads I hF (by omega) h3 r2
      unfold toDL
      exact ⟨_,.cons q1 q2⟩
end
theorem okv_lt {p:PV} (h:okv p=true):dep p < 1000:=by
  unfold okv at h
  rw [Bool.and_eq_true,decide_eq_true_iff] at h
  omega
noncomputable def pEq (p q:PV):Option PV:=if okv p=true∧okv q=true then some (.bl (peq p q)) else none
noncomputable def pNe (p q:PV):Option PV:=if okv p=true∧okv q=true then some (.bl (!peq p q)) else none
theorem om_eq (hu:X.A.units + 64 < cLine):OpM X (compareOp .Eq) pEq:=by
  intro pins s σ H x y v u Q I rx ry h
  refine xq fun _ kq=>?_
  refine x4_5 (h) fun F p q r h1 h2 h3 h4 w => ?_
  obtain ⟨⟨c1,c2⟩,rfl⟩:=ite_get h4
  obtain ⟨as,ra⟩:=Rep.reads I h1 (okv_lt c1) h2 rx
  obtain ⟨bs,rb⟩:=Rep.reads I h1 (okv_lt c2) h3 ry
  apply kq
  refine eq_dataH ra rb (shaped_toD c1) (shaped_toD c2) hu ?_
  rw [eqv_toD _ _ (okv_lt c1) (okv_lt c2)]
  exact ⟨.bl _,H,I,rfl,w.here h1 (rep_bl _)⟩
theorem om_ne (hu:X.A.units + 64 < cLine):OpM X (compareOp .NotEq) pNe:=by
  intro pins s σ H x y v u Q I rx ry h
  refine xq fun _ kq=>?_
  refine x4_5 (h) fun F p q r h1 h2 h3 h4 w => ?_
  obtain ⟨⟨c1,c2⟩,rfl⟩:=ite_get h4
  obtain ⟨as,ra⟩:=Rep.reads I h1 (okv_lt c1) h2 rx
  obtain ⟨bs,rb⟩:=Rep.reads I h1 (okv_lt c2) h3 ry
  apply kq
  refine ne_dataH ra rb (shaped_toD c1) (shaped_toD c2) hu ?_
  rw [eqv_toD _ _ (okv_lt c1) (okv_lt c2)]
  exact ⟨.bl _,H,I,rfl,w.here h1 (rep_bl _)⟩
end
end L2.PM

set_option Elab.async false
set_option linter.all false
set_option maxRecDepth 100000
noncomputable section
namespace L2.PM
open PySem PySem.Spec PyProof.Rows

section
variable {X:Cx} {e a b c:Expr} {es:List Expr} {ms ns ls:List Nat} {m m1 m2 m3:MEx} {pos:Pos}
theorem any_get:∀ {its:List Value} {xs:List PV} (f:PV→Bool),its.length=xs.length→∀ g:Value→Bool,(∀ (j:Nat) (u:Value) (p:PV),its[j]?=some u→xs[j]?=some p→g u=f p)→its.any g=xs.any f
  | [],[],_,_,_,_=>rfl
  | [],_ :: _,_,h,_,_=>by simp at h
  | _ :: _,[],_,h,_,_=>by simp at h
  | u :: us,p :: ps,f,h,g,k=>by
    rw [List.any_cons,List.any_cons,k 0 u p rfl rfl,any_get f (by simpa using h) g fun j u p h1 h2=>k (j + 1) u p (by simpa using h1) (by simpa using h2)]
open Classical in
noncomputable def gOf (its:List Value) (xs:List PV) (x:PV) (u:Value):Bool:=if h:∃ (j:Nat) (p:PV),its[j]?=some u∧xs[j]?=some p then peq (Classical.choose (Classical.choose_spec h)) x else false
noncomputable def pIn:PV→PV→Option PV
  | x,.lst xs=>if okv x=true∧xs.all okv=true then some (.bl (xs.any fun y=>peq y x)) else none
  | x,.tup xs=>if okv x=true∧xs.all okv=true then some (.bl (xs.any fun y=>peq y x)) else none
  | _,_=>none
noncomputable def pNotIn (x y:PV):Option PV:=(pIn x y).bind fun r=>match r with
  | .bl b=>some (.bl (!b))
  | _=>none
theorem okv_dep {p:PV} (h:okv p=true):dep p≤50:=by
  unfold okv at h
  rw [Bool.and_eq_true,decide_eq_true_iff] at h
  exact h.1
theorem mem_eq {pins:List (Addr×Obj)} {σ:St} {H F:Hp} {s:Shared} {A:Around} (I:Inv X pins σ H s) (hF:Same F H) (hu:A.units + 60 < cLine) {x:PV} {xv:V} {xu:Value} {xs:List PV} {vs:List V} {its:List Value}
    (ok:xs.all okv=true) (okx:okv x=true) (hx:Rep X.K F x xv) (rx:RelV xv xu) (hxs:RepL X.K F xs vs) (rv:Vals vs its) :
    (∀ u∈its,SeqAt.EqAt A s u xu (gOf its xs x u))∧its.any (gOf its xs x)=xs.any fun y=>peq y x:=by
  have len:its.length=xs.length:=by rw [← rv.length,hxs.length]
  have inj:∀ (j k:Nat) (u:Value) (p q:PV),its[j]?=some u→xs[j]?=some p→its[k]?=some u→xs[k]?=some q→p=q:=fun j k u p q h1 h2 h3 h4=>by
    refine xq fun _ kq=>?_
    refine x1_2 (hxs.get h2) fun v1 e1 r1 => ?_
    refine x1_2 (hxs.get h4) fun v2 e2 r2 => ?_
    refine x1_2 (rv.get e1) fun w1 f1 t1 => ?_
    refine x1_2 (rv.get e2) fun w2 f2 t2 => ?_
    apply kq
    rw [h1] at f1;rw [h3] at f2
    cases f1;cases f2
    have ev:=t1.inj t2
    subst ev
    have hd:∀ (j:Nat) (p:PV),xs[j]?=some p→dep p < 1000:=fun j p h=>by
      have z:=List.all_eq_true.mp ok p (List.mem_of_getElem? h)
      unfold okv at z
      rw [Bool.and_eq_true,decide_eq_true_iff] at z
      omega
    exact Rep.inj I hF (hd _ _ h2) (hd _ _ h4) r1 r2
  have val:∀ (j:Nat) (u:Value) (p:PV),its[j]?=some u→xs[j]?=some p→gOf its xs x u=peq p x:=fun j u p h1 h2=>by
    have h:∃ (j:Nat) (p:PV),its[j]?=some u∧xs[j]?=some p:=⟨j,p,h1,h2⟩
    unfold gOf
    rw [dif_pos h]
    have hs:=Classical.choose_spec (Classical.choose_spec h)
    rw [inj _ _ u _ _ hs.1 hs.2 h1 h2]
  refine ⟨fun u hu' => ?_,any_get (fun y=>peq y x) len _ fun j u p h1 h2=>val j u p h1 h2⟩
  obtain ⟨j,hj⟩:=List.mem_iff_getElem?.mp hu'
  have hjl:j < xs.length:=by rw [← len];exact (List.getElem?_eq_some_iff.mp hj).1
  have e1:xs[j]?=some xs[j]:=by simp [hjl]
  rw [val j u _ hj e1]
  refine xq fun _ kq=>?_
  refine x1_2 (hxs.get e1) fun v1 f1 r1 => ?_
  refine x1_2 (rv.get f1) fun w1 g1 t1 => ?_
  apply kq
  rw [hj] at g1;cases g1
  have okj:okv xs[j]=true:=List.all_eq_true.mp ok _ (List.getElem_mem hjl)
  exact eqAt_rep I hF 50 A _ _ v1 xv _ _ (okv_dep okj) (by omega) (okv_lt okx) (by omega) r1 hx t1 rx
theorem pIn_get {x y r:PV} (h:pIn x y=some r):∃ xs,(y = .lst xs∨y = .tup xs)∧okv x=true∧xs.all okv=true∧r = .bl (xs.any fun y=>peq y x):=by
  cases y with
  | lst xs =>
    have h:(if okv x=true∧xs.all okv=true then some (PV.bl (xs.any fun y=>peq y x)) else none)=some r:=h
    obtain ⟨⟨c1,c2⟩,rfl⟩:=ite_get h
    exact ⟨xs,.inl rfl,c1,c2,rfl⟩
  | tup xs =>
    have h:(if okv x=true∧xs.all okv=true then some (PV.bl (xs.any fun y=>peq y x)) else none)=some r:=h
    obtain ⟨⟨c1,c2⟩,rfl⟩:=ite_get h
    exact ⟨xs,.inr rfl,c1,c2,rfl⟩
  | _=>cases h
theorem om_in (hu:X.A.units + 64 < cLine):OpM X (compareOp .In) pIn:=by
  intro pins s σ H x y v u Q I rx ry h
  refine xq fun _ kq=>?_
  refine x4_5 (h) fun F p q r h1 h2 h3 h4 w => ?_
  refine x1_4 (pIn_get h4) fun xs hk c1 c2 zq1 => ?_
  obtain rfl:=zq1
  apply kq
  have hu1:X.A.in1.units + 60 < cLine:=by show X.A.units + 1 + 60 < cLine;omega
  rcases hk with rfl | rfl
  · unfold Rep at h3
    refine xq fun _ kq=>?_
    refine x2_3 (h3) fun a vs zq1 k2 k3 => ?_
    obtain rfl:=zq1
    apply kq
    cases ry
    refine xq fun _ kq=>?_
    refine x1_3 (I.list (h1.seq k2)) fun its rv pl _ => ?_
    obtain ⟨he,hany⟩:=mem_eq (A:=X.A.in1) I h1 hu1 c2 c1 h2 rx k3 rv
    apply kq
    refine SeqAt.in_listAt (gOf its xs p) pl.isList (fun y hy=>he y (by simpa using hy)) ⟨.bl _,H,I,rfl,?_⟩
    rw [show its.toArray.any (gOf its xs p)=its.any (gOf its xs p) by simp,hany]
    exact w.here h1 (rep_bl _)
  · unfold Rep at h3
    refine xq fun _ kq=>?_
    refine x2_3 (h3) fun a vs zq1 k2 k3 => ?_
    obtain rfl:=zq1
    apply kq
    cases ry
    refine xq fun _ kq=>?_
    refine x1_3 (I.tuple (h1.seqT k2)) fun its rv pl _ => ?_
    obtain ⟨he,hany⟩:=mem_eq (A:=X.A.in1) I h1 hu1 c2 c1 h2 rx k3 rv
    apply kq
    refine SeqAt.in_tupleAt (gOf its xs p) pl (fun y hy=>he y (by simpa using hy)) ⟨.bl _,H,I,rfl,?_⟩
    rw [show its.toArray.any (gOf its xs p)=its.any (gOf its xs p) by simp,hany]
    exact w.here h1 (rep_bl _)
theorem om_notIn (hu:X.A.units + 64 < cLine):OpM X (compareOp .NotIn) pNotIn:=by
  intro pins s σ H x y v u Q I rx ry h
  refine xq fun _ kq=>?_
  refine x4_5 (h) fun F p q r h1 h2 h3 h4 w => ?_
  apply kq
  unfold pNotIn at h4
  cases e:pIn p q with
  | none=>rw [e] at h4;cases h4
  | some r0 =>
    rw [e] at h4
    refine xq fun _ kq=>?_
    refine x1_4 (pIn_get e) fun xs hk c1 c2 zq1 => ?_
    obtain rfl:=zq1
    apply kq
    have h4:some (PV.bl (!(xs.any fun y=>peq y p)))=some r:=h4
    cases h4
    have hu1:X.A.in1.units + 60 < cLine:=by show X.A.units + 1 + 60 < cLine;omega
    rcases hk with rfl | rfl
    · unfold Rep at h3
      refine xq fun _ kq=>?_
      refine x2_3 (h3) fun a vs zq1 k2 k3 => ?_
      obtain rfl:=zq1
      apply kq
      cases ry
      refine xq fun _ kq=>?_
      refine x1_3 (I.list (h1.seq k2)) fun its rv pl _ => ?_
      obtain ⟨he,hany⟩:=mem_eq (A:=X.A.in1) I h1 hu1 c2 c1 h2 rx k3 rv
      apply kq
      refine SeqAt.notIn_listAt (gOf its xs p) pl.isList (fun y hy=>he y (by simpa using hy)) ⟨.bl _,H,I,rfl,?_⟩
      rw [show its.toArray.any (gOf its xs p)=its.any (gOf its xs p) by simp,hany]
      exact w.here h1 (rep_bl _)
    · unfold Rep at h3
      refine xq fun _ kq=>?_
      refine x2_3 (h3) fun a vs zq1 k2 k3 => ?_
      obtain rfl:=zq1
      apply kq
      cases ry
      refine xq fun _ kq=>?_
      refine x1_3 (I.tuple (h1.seqT k2)) fun its rv pl _ => ?_
      obtain ⟨he,hany⟩:=mem_eq (A:=X.A.in1) I h1 hu1 c2 c1 h2 rx k3 rv
      apply kq
      refine SeqAt.notIn_tupleAt (gOf its xs p) pl (fun y hy=>he y (by simpa using hy)) ⟨.bl _,H,I,rfl,?_⟩
      rw [show its.toArray.any (gOf its xs p)=its.any (gOf its xs p) by simp,hany]
      exact w.here h1 (rep_bl _)
noncomputable def isN:PV→Bool
  | .non=>true
  | _=>false
noncomputable def pIs:PV→PV→Option PV
  | p,.non=>some (.bl (isN p))
  | .bl a,.bl b=>some (.bl (a==b))
  | _,_=>none
noncomputable def pIsNot:PV→PV→Option PV
  | p,.non=>some (.bl (!isN p))
  | .bl a,.bl b=>some (.bl (a != b))
  | _,_=>none
theorem op_isB:OpR X (compareOp .Is) (fun x y H Q=>∃ a b,x = .bl a∧y = .bl b∧Q (.bl (a==b)) H):=by
  intro pins s σ H x y v u Q I rx ry h
  refine xq fun _ kq=>?_
  refine x2_3 (h) fun a b zq1 zq2 q => ?_
  obtain rfl:=zq1
  obtain rfl:=zq2
  apply kq
  cases rx
  cases ry
  exact is_bool (fin_bl I q rfl)
theorem op_notB:OpR X (compareOp .IsNot) (fun x y H Q=>∃ a b,x = .bl a∧y = .bl b∧Q (.bl (a != b)) H):=by
  intro pins s σ H x y v u Q I rx ry h
  refine xq fun _ kq=>?_
  refine x2_3 (h) fun a b zq1 zq2 q => ?_
  obtain rfl:=zq1
  obtain rfl:=zq2
  apply kq
  cases rx
  cases ry
  exact isnot_bool (fin_bl I q rfl)
theorem isN_rep {K:PySem.W.Frag} {F:Hp} {p:PV} {v:V} (h:Rep K F p v):decide (v = .non)=isN p:=by
  cases p <;> unfold Rep at h <;> first
    | (subst h;simp [isN];done)
    | (obtain ⟨a,vs,rfl,_⟩:=h;simp [isN];done)
    | (obtain ⟨a,dx,vs,rfl,_⟩:=h;simp [isN])
theorem om_is:OpM X (compareOp .Is) pIs:=by
  intro pins s σ H x y v u Q I rx ry h
  refine xq fun _ kq=>?_
  refine x4_5 (h) fun F p q r h1 h2 h3 h4 w => ?_
  apply kq
  cases q with
  | non =>
    have h4:some (PV.bl (isN p))=some r:=h4
    cases h4
    unfold Rep at h3
    exact op_isN pins s σ H x y v u Q I rx ry ⟨h3,by rw [isN_rep h2];exact w.here h1 (rep_bl _)⟩
  | bl b =>
    cases p with
    | bl a =>
      cases h4
      unfold Rep at h2 h3
      exact op_isB pins s σ H x y v u Q I rx ry ⟨a,b,h2,h3,w.here h1 (rep_bl _)⟩
    | _=>cases h4
  | _=>cases p <;> cases h4
theorem om_isNot:OpM X (compareOp .IsNot) pIsNot:=by
  intro pins s σ H x y v u Q I rx ry h
  refine xq fun _ kq=>?_
  refine x4_5 (h) fun F p q r h1 h2 h3 h4 w => ?_
  apply kq
  cases q with
  | non =>
    have h4:some (PV.bl (!isN p))=some r:=h4
    cases h4
    unfold Rep at h3
    exact op_notN pins s σ H x y v u Q I rx ry ⟨h3,by rw [isN_rep h2];exact w.here h1 (rep_bl _)⟩
  | bl b =>
    cases p with
    | bl a =>
      cases h4
      unfold Rep at h2 h3
      exact op_notB pins s σ H x y v u Q I rx ry ⟨a,b,h2,h3,w.here h1 (rep_bl _)⟩
    | _=>cases h4
  | _=>cases p <;> cases h4
noncomputable def pIx:PV→PV→Option PV
  | .lst xs,.int i=>atI xs i
  | .tup xs,.int i=>atI xs i
  | .str z,.int i=>if z.length≤LIM then (atI z.cps.toList i).map fun c => .str ⟨#[c]⟩ else none
  | _,_=>none
theorem atI_rep {K:PySem.W.Frag} {F:Hp} {xs:List PV} {vs:List V} {i:Int} {r:PV} (h:RepL K F xs vs) (e:atI xs i=some r):∃ v,atI vs i=some v∧Rep K F r v:=by
  unfold atI at e ⊢
  rw [h.length]
  cases q:ixN xs.length i with
  | none=>rw [q] at e;cases e
  | some j =>
    rw [q] at e
    exact h.get e
theorem im_ix:IxR X (rM2 X.K pIx):=by
  intro value slice pins s σ H x y v u Q I rx ry h hs
  refine xq fun _ kq=>?_
  refine x4_5 (h) fun F p q r h1 h2 h3 h4 w => ?_
  apply kq
  cases p <;> cases q <;> first
    | (exfalso;cases h4;done)
    | skip
  · rename_i z i
    have h4:(if z.length≤LIM then (atI z.cps.toList i).map fun c=>PV.str ⟨#[c]⟩ else none)=some r:=h4
    by_cases c:z.length≤LIM
    · rw [if_pos c] at h4
      cases e:atI z.cps.toList i with
      | none=>rw [e] at h4;cases h4
      | some k =>
        rw [e] at h4
        cases h4
        unfold Rep at h2 h3
        exact ix_str value slice pins s σ H x y v u Q I rx ry ⟨z,i,k,h2,h3,Nat.le_trans c lim_line,e,w.here h1 (rep_str _)⟩ hs
    · rw [if_neg c] at h4;cases h4
  · rename_i xs i
    have h4:atI xs i=some r:=h4
    unfold Rep at h2 h3
    refine xq fun _ kq=>?_
    refine x2_3 (h2) fun a vs zq1 k2 k3 => ?_
    obtain rfl:=zq1
    refine x1_2 (atI_rep k3 h4) fun rv e1 e2 => ?_
    apply kq
    exact ix_tup value slice pins s σ H _ y v u Q I rx ry ⟨a,vs,i,rv,rfl,h3,h1.seqT k2,e1,w.here h1 e2⟩ hs
  · rename_i xs i
    have h4:atI xs i=some r:=h4
    unfold Rep at h2 h3
    refine xq fun _ kq=>?_
    refine x2_3 (h2) fun a vs zq1 k2 k3 => ?_
    obtain rfl:=zq1
    refine x1_2 (atI_rep k3 h4) fun rv e1 e2 => ?_
    apply kq
    exact ix_list value slice pins s σ H _ y v u Q I rx ry ⟨a,vs,i,rv,rfl,h3,h1.seq k2,e1,w.here h1 e2⟩ hs
end
end L2.PM

set_option Elab.async false
set_option linter.all false
set_option maxRecDepth 100000
noncomputable section
namespace L2.PM
open PySem PySem.Spec PyProof.Rows

section
variable {X:Cx} {e a b c:Expr} {es:List Expr} {ms ns ls:List Nat} {m m1 m2 m3:MEx} {pos p2:Pos}

theorem bind_get {α β:Type} {x:Option α} {f:α→Option β} {r:β} (h:x.bind f=some r):∃ y,x=some y∧f y=some r:=by
  cases x with
  | none=>cases h
  | some y=>exact ⟨y,rfl,h⟩
theorem map_get {α β:Type} {x:Option α} {f:α→β} {r:β} (h:x.map f=some r):∃ y,x=some y∧f y=r:=by
  cases x with
  | none=>cases h
  | some y=>exact ⟨y,rfl,Option.some.inj h⟩

noncomputable def OM (X:Cx) (ms:List Nat) (e:Option Expr) (m:PEnv→Option (Option Int)):Prop :=
  PO X e fun σ H Q=>∃ F γ r,Same F H∧ERep X.K F σ γ ms∧m γ=some r∧∀ H' F',Grow F H F' H'→Q r H'
noncomputable def mNo:PEnv→Option (Option Int):=fun _=>some none
noncomputable def pInt:PV→Option (Option Int)
  | .int i=>some (some i)
  | _=>none
noncomputable def mSo (m:MEx):PEnv→Option (Option Int):=fun γ=>(m γ).bind pInt
theorem om_some (h:EM X ms e m):OM X ms (some e) (mSo m):=fun pins s σ H Q I hq9=>x3_4 hq9 fun F γ r h1 h2 h3 w=>po_some h pins s σ H Q I (by
  refine x1_2 (bind_get h3) fun p e1 e2 => ?_
  refine ⟨F,γ,p,h1,h2,e1,fun v H' F' g q => ?_⟩
  cases p with
  | int i =>
    unfold Rep at q
    cases e2
    exact ⟨i,q,w H' F' g⟩
  | _=>cases e2)
noncomputable def cutP (xs:List α) (lo hi:Option Int):List α:=(xs.drop (HT.sIx xs.length 0 lo)).take (HT.sIx xs.length xs.length hi - HT.sIx xs.length 0 lo)
noncomputable def pCut:PV→Option Int→Option Int→Option (List PV)
  | .lst xs,lo,hi=>some (cutP xs lo hi)
  | _,_,_=>none
noncomputable def sl3 (f:PV→Option Int→Option Int→Option α) (m:MEx) (ml mh:PEnv→Option (Option Int)):PEnv→Option α:=fun γ=>(m γ).bind fun x=>(ml γ).bind fun l=>(mh γ).bind fun h=>f x l h
variable {lo hi:Option Expr} {ml mh:PEnv→Option (Option Int)}
theorem eo_cut (he:EM X ms e m) (hl:OM X ns lo ml) (hh:OM X ls hi mh):EO X (ms++(ns++ls)) (.Subscript e (.Slice lo hi none p2) pos) (sl3 pCut m ml mh):=by
  refine PE.imp (pe_slice sl_list he hl hh) fun σ H Q hq9=>x3_4 hq9 fun F γ r h1 h2 h3 w => ?_
  refine xq fun _ kq=>?_
  refine x1_2 (bind_get h3) fun x e1 h3 => ?_
  refine x1_2 (bind_get h3) fun l e2 h3 => ?_
  refine x1_2 (bind_get h3) fun h e3 h3 => ?_
  apply kq
  refine ⟨F,γ,x,h1,h2.left,e1,fun vx H1 F1 g1 r1=>⟨F1,γ,l,g1.sub,h2.right.left.mono g1.ext,e2,fun H2 F2 g2=>⟨F2,γ,h,g2.sub,h2.right.right.mono (g1.ext.trans g2.ext),e3,fun H3 F3 g3 => ?_⟩⟩⟩
  have g:=g1.trans (g2.trans g3)
  cases x with
  | lst xs =>
    cases h3
    unfold Rep at r1
    refine xq fun _ kq=>?_
    refine x2_3 (r1) fun a vs zq1 k2 k3 => ?_
    obtain rfl:=zq1
    apply kq
    have gg:=g2.ext.trans g3.ext
    refine ⟨a,vs,rfl,g3.sub.seq (gg.seq k2),fun p hp => ?_⟩
    have nF:F3 p=none:=g3.sub.free hp
    refine w p _ _ F3 (g.trans (.side g3.sub hp)) (g.same.free hp) nF upd_same ?_
    unfold cutV cutP
    rw [k3.length]
    exact ((k3.drop _).take _).mono gg
  | _=>cases h3
noncomputable def pCutT:PV→Option Int→Option Int→Option PV
  | .tup xs,lo,hi=>if ¬ (HT.sIx xs.length 0 lo=0∧HT.sIx xs.length xs.length hi=xs.length) then some (.tup (cutP xs lo hi)) else none
  | _,_,_=>none
variable {t1 t2:PEnv→Option Bool} {rest:List Expr}
noncomputable def WM (X:Cx) (ms:List Nat) (e:Expr) (m:PEnv→Option Bool):Prop:=PW X e (tMT X.K ms m)
theorem WM.tm {e:Expr} (h:WM X ms e t1):TM X ms e t1:=PW.pt h
theorem _root_.L2.PW.imp {t t':TT} (h:PW X e t) (i:∀ σ H Q,t' σ H Q→t σ H Q):PW X e t':=fun whole pins s σ H Q I q=>h whole pins s σ H Q I (i σ H Q q)
theorem wm_and1 (h:TM X ms a t1):WM X ms (.BoolOp .And [a] pos) t1:=pw_and1 h
theorem wm_or1 (h:TM X ms a t1):WM X ms (.BoolOp .Or [a] pos) t1:=pw_or1 h
noncomputable def bAnd (t1 t2:PEnv→Option Bool):PEnv→Option Bool:=fun γ=>(t1 γ).bind fun x=>if x=true then t2 γ else some false
noncomputable def bOr (t1 t2:PEnv→Option Bool):PEnv→Option Bool:=fun γ=>(t1 γ).bind fun x=>if x=true then some true else t2 γ
noncomputable def bNot (t1:PEnv→Option Bool):PEnv→Option Bool:=fun γ=>(t1 γ).map not
theorem wm_and (h1:TM X ms a t1) (h2:WM X ns (.BoolOp .And (b :: rest) pos) t2):WM X (ms++ns) (.BoolOp .And (a :: b :: rest) pos) (bAnd t1 t2) :=
  PW.imp (pw_and h1 h2) fun σ H Q hq9=>x3_4 hq9 fun F γ r k1 k2 k3 w=>by
    refine x1_2 (bind_get k3) fun x e1 k3 => ?_
    refine ⟨F,γ,x,k1,k2.left,e1,fun H1 F1 g1 => ?_⟩
    cases x with
    | true =>
      rw [if_pos rfl] at k3 ⊢
      exact ⟨F1,γ,r,g1.sub,k2.right.mono g1.ext,k3,fun H2 F2 g2=>w H2 F2 (g1.trans g2)⟩
    | false =>
      rw [if_neg Bool.false_ne_true] at k3 ⊢
      cases k3
      exact w H1 F1 g1
theorem wm_or (h1:TM X ms a t1) (h2:WM X ns (.BoolOp .Or (b :: rest) pos) t2):WM X (ms++ns) (.BoolOp .Or (a :: b :: rest) pos) (bOr t1 t2) :=
  PW.imp (pw_or h1 h2) fun σ H Q hq9=>x3_4 hq9 fun F γ r k1 k2 k3 w=>by
    refine x1_2 (bind_get k3) fun x e1 k3 => ?_
    refine ⟨F,γ,x,k1,k2.left,e1,fun H1 F1 g1 => ?_⟩
    cases x with
    | false =>
      rw [if_neg Bool.false_ne_true] at k3 ⊢
      exact ⟨F1,γ,r,g1.sub,k2.right.mono g1.ext,k3,fun H2 F2 g2=>w H2 F2 (g1.trans g2)⟩
    | true =>
      rw [if_pos rfl] at k3 ⊢
      cases k3
      exact w H1 F1 g1
theorem tm_not (h:TM X ms a t1):TM X ms (.UnaryOp .Not a pos) (bNot t1) :=
  PT.imp (pt_not h) fun σ H Q hq9=>x3_4 hq9 fun F γ r k1 k2 k3 w=>by
    refine x1_2 (map_get k3) fun x e1 k3 => ?_
    subst k3
    exact ⟨F,γ,x,k1,k2,e1,w⟩
noncomputable def tru:PV→Option Bool
  | .non=>some false
  | .bl b=>some b
  | .int i=>some (i != 0)
  | .str y=>if y.length≤LIM then some ((y.length:Int) != 0) else none
  | .tup xs=>some (!xs.isEmpty)
  | .lst xs=>some (!xs.isEmpty)
  | .obj _ _ _=>none
  | .opq _=>none
noncomputable def mTru (m:MEx):PEnv→Option Bool:=fun γ=>(m γ).bind tru
theorem isEmpty_rep {K:PySem.W.Frag} {F:Hp} {xs:List PV} {vs:List V} (h:RepL K F xs vs):vs.isEmpty=xs.isEmpty:=by
  have:=h.length
  cases vs <;> cases xs <;> simp_all
theorem tru_rep {K:PySem.W.Frag} {F H:Hp} {p:PV} {v:V} {k:Bool} (hs:Same F H) (h:Rep K F p v) (e:tru p=some k):TruV K v H k:=by
  cases p <;> unfold Rep at h
  · subst h;cases e;rfl
  · subst h;cases e;rfl
  · subst h;cases e;rfl
  · subst h
    rename_i y
    have e:(if y.length≤LIM then some ((y.length:Int) != 0) else none)=some k:=e
    obtain ⟨c,rfl⟩:=ite_get e
    exact ⟨Nat.le_trans c lim_line,rfl⟩
  · refine xq fun _ kq=>?_
    refine x2_3 (h) fun a vs zq1 k2 k3 => ?_
    obtain rfl:=zq1
    apply kq
    cases e
    exact .inr (.inl ⟨vs,hs.seqT k2,by rw [isEmpty_rep k3]⟩)
  · refine xq fun _ kq=>?_
    refine x2_3 (h) fun a vs zq1 k2 k3 => ?_
    obtain rfl:=zq1
    apply kq
    cases e
    exact .inl ⟨vs,hs.seq k2,by rw [isEmpty_rep k3]⟩
  · cases e
  · cases e
theorem tm_truth (h:EM X ms e m) (he:∀ whole,isTrue e X.env whole=(do let v ← whole;standAt e.pos;holding [v] (truthy v)):=by intro _;rfl):TM X ms e (mTru m) :=
  PT.imp (pt_truth h he) fun σ H Q hq9=>x3_4 hq9 fun F γ r k1 k2 k3 w=>by
    refine x1_2 (bind_get k3) fun p e1 e2 => ?_
    exact ⟨F,γ,p,k1,k2,e1,fun v H' F' g q=>⟨r,tru_rep g.sub q e2,w H' F' g⟩⟩
noncomputable def vAnd (m1 m2:MEx):MEx:=fun γ=>(m1 γ).bind fun x=>(isB x).bind fun k=>if k=true then m2 γ else some (.bl false)
noncomputable def vOr (m1 m2:MEx):MEx:=fun γ=>(m1 γ).bind fun x=>(isB x).bind fun k=>if k=true then some (.bl true) else m2 γ
noncomputable def vNot (m1:MEx):MEx:=fun γ=>(m1 γ).bind fun x=>(isB x).map fun k => .bl (!k)
noncomputable def mIfE (t:PEnv→Option Bool) (m1 m2:MEx):MEx:=fun γ=>(t γ).bind fun k=>if k=true then m1 γ else m2 γ
theorem em_if (hc:TM X ls c t1) (ha:EM X ms a m1) (hb:EM X ns b m2):EM X (ls++(ms++ns)) (.IfExp c a b pos) (mIfE t1 m1 m2) :=
  PE.imp (pe_ifExp hc ha hb) fun σ H Q hq9=>x3_4 hq9 fun F γ r k1 k2 k3 w=>by
    refine x1_2 (bind_get k3) fun k e1 k3 => ?_
    refine ⟨F,γ,k,k1,k2.left,e1,fun H1 F1 g1 => ?_⟩
    cases k with
    | true =>
      rw [if_pos rfl] at k3 ⊢
      exact ⟨F1,γ,r,g1.sub,k2.right.left.mono g1.ext,k3,w.go g1⟩
    | false =>
      rw [if_neg Bool.false_ne_true] at k3 ⊢
      exact ⟨F1,γ,r,g1.sub,k2.right.right.mono g1.ext,k3,w.go g1⟩
noncomputable def ch3 (f g:PV→PV→Option PV) (m1 m2 m3:MEx):MEx:=fun γ=>(m1 γ).bind fun x=>(m2 γ).bind fun y=>(f x y).bind fun z=>(isB z).bind fun k=>if k=true then (m3 γ).bind fun w=>g y w else some (.bl false)
noncomputable def un1 (f:PV→Option PV) (m:MEx):MEx:=fun γ=>(m γ).bind f
noncomputable def pNeg:PV→Option PV
  | .int i=>some (.int (-i))
  | _=>none
noncomputable def pInv:PV→Option PV
  | .int i=>some (.int (Builtin.bitNot i))
  | _=>none
theorem em_inv (h:EM X ms a m):EM X ms (.UnaryOp .Invert a pos) (un1 pInv m) :=
  PE.imp (pe_un un_inv h) fun σ H Q hq9=>x3_4 hq9 fun F γ r k1 k2 k3 w=>by
    refine x1_2 (bind_get k3) fun x e1 k3 => ?_
    refine ⟨F,γ,x,k1,k2,e1,fun v H1 F1 g1 q => ?_⟩
    cases x with
    | int i=>unfold Rep at q;cases k3;exact ⟨i,q,(w.go g1).here g1.sub (rep_int _)⟩
    | _=>cases k3

variable {ma:PEnv→Option (List PV)}
noncomputable def aNil:PEnv→Option (List PV):=fun _=>some []
noncomputable def aCons (m:MEx) (ma:PEnv→Option (List PV)):PEnv→Option (List PV):=fun γ=>(m γ).bind fun x=>(ma γ).map (x :: ·)
theorem am_nil:AM X [] [] aNil:=PA.imp pa_nil fun σ H Q hq9=>x3_4 hq9 fun F γ r k1 k2 k3 w=>by
  cases k3
  exact w [] H F (.refl k1) .nil
theorem am_cons (h:EM X ms e m) (hr:AM X ns es ma) (hs:starEach (e :: es) X.env=(false,eval e X.env) :: starEach es X.env:=by rfl):AM X (ms++ns) (e :: es) (aCons m ma) :=
  PA.imp (pa_cons h hr hs) fun σ H Q hq9=>x3_4 hq9 fun F γ r k1 k2 k3 w=>by
    refine xq fun _ kq=>?_
    refine x1_2 (bind_get k3) fun x e1 k3 => ?_
    refine x1_2 (map_get k3) fun xs e2 k3 => ?_
    apply kq
    subst k3
    refine ⟨F,γ,x,k1,k2.left,e1,fun v H1 F1 g1 q1=>⟨F1,γ,xs,g1.sub,k2.right.mono g1.ext,e2,fun vs H2 F2 g2 q2 => ?_⟩⟩
    exact w (v :: vs) H2 F2 (g1.trans g2) (.cons (q1.mono g2.ext) q2)
noncomputable def mLim (m:PEnv→Option (List PV)):PEnv→Option (List PV):=fun γ=>(m γ).bind fun xs=>if xs.length≤LIM then some xs else none
noncomputable def mTup (m:PEnv→Option (List PV)):MEx:=fun γ=>(m γ).bind fun xs=>if xs.length≤LIM then some (.tup xs) else none
theorem em_tup {x1} (h:AM X ms es ma):EM X ms (.Tuple es x1 pos) (mTup ma) :=
  PE.imp (pe_tup h) fun σ H Q hq9=>x3_4 hq9 fun F γ r k1 k2 k3 w=>by
    refine xq fun _ kq=>?_
    refine x1_2 (bind_get k3) fun xs e1 k3 => ?_
    obtain ⟨c,rfl⟩:=ite_get k3
    apply kq
    refine ⟨F,γ,xs,k1,k2,e1,fun vs H1 F1 g1 q1=>⟨by rw [q1.length];exact Nat.le_trans c lim_line,fun p hp => ?_⟩⟩
    refine w _ _ _ (g1.trans (.laid g1.sub hp)) ?_
    unfold Rep
    exact ⟨p,vs,rfl,.of upd_same,q1.mono (Grow.laid g1.sub hp).ext⟩
theorem eo_lst (h:AM X ms es ma):EO X ms (.List es pos) (mLim ma) :=
  PE.imp (pe_lst h) fun σ H Q hq9=>x3_4 hq9 fun F γ r k1 k2 k3 w=>by
    refine xq fun _ kq=>?_
    refine x1_2 (bind_get k3) fun xs e1 k3 => ?_
    obtain ⟨c,rfl⟩:=ite_get k3
    apply kq
    refine ⟨F,γ,xs,k1,k2,e1,fun vs H1 F1 g1 q1=>⟨by rw [q1.length];exact Nat.le_trans c lim_line,fun p hp => ?_⟩⟩
    exact w p vs _ F1 (g1.trans (.side g1.sub hp)) (g1.same.free hp) (g1.sub.free hp) upd_same q1

noncomputable def rMA (K:PySem.W.Frag) (g:List PV→Option PV):List V→Hp→VK→Prop:=fun vs H Q=>∃ F ps r,Same F H∧RepL K F ps vs∧g ps=some r∧Wv K F H r Q
noncomputable def rMAO (K:PySem.W.Frag) (g:List PV→Option (List PV)):List V→Hp→VK→Prop:=fun vs H Q=>∃ F ps r,Same F H∧RepL K F ps vs∧g ps=some r∧Wo K F H r Q
noncomputable def CallM (X:Cx) (f:Value) (g:List PV→Option PV):Prop:=CallR X f (rMA X.K g)
noncomputable def CallO (X:Cx) (f:Value) (g:List PV→Option (List PV)):Prop:=CallR X f (rMAO X.K g)
noncomputable def mCall (g:List PV→Option α) (ma:PEnv→Option (List PV)):PEnv→Option α:=fun γ=>(ma γ).bind g
theorem tCB_of {K:PySem.W.Frag} {g:List PV→Option PV} {σ:St} {H:Hp} {Q:VK} (h:tM K ms (mCall g ma) σ H Q):tCB (rMA K g) (tMA K ms ma) σ H Q:=by
  refine xq fun _ kq=>?_
  refine x3_4 (h) fun F γ r k1 k2 k3 w => ?_
  refine x1_2 (bind_get k3) fun xs e1 k3 => ?_
  apply kq
  exact ⟨F,γ,xs,k1,k2,e1,fun vs H1 F1 g1 q1=>⟨F1,xs,r,g1.sub,q1,k3,w.go g1⟩⟩
variable {x:Str} {p:Pos} {id T:String}
theorem em_callB {g:List PV→Option PV} (hc:CallM X (.builtin id) g) (hg:Gl X x) (hm:X.mg x=none) (hv:bootBuiltins x=some (.builtin id)) (ha:AM X ms (e :: es) ma) (hn:x ≠ "__name__":=by decide) (hdb:(x==("__debug__":Str))=false:=by decide)
    (he:starEach (e :: es) X.env=(false,eval e X.env) :: starEach es X.env:=by rfl) (hpl:(backTo pos (starEach es X.env)).any (·.1)=false:=by rfl):EM X ms (.Call (.Name x p) (e :: es) [] pos) (mCall g ma) :=
  PE.imp (pe_callB hc hg hm hv ha hn hdb he hpl) fun _ _ _ h=>tCB_of h
theorem em_callTy {g:List PV→Option PV} (hc:CallM X (.type T) g) (hg:Gl X x) (hm:X.mg x=none) (hv:bootBuiltins x=some (.type T)) (ha:AM X ms (e :: es) ma) (hn:x ≠ "__name__":=by decide) (hdb:(x==("__debug__":Str))=false:=by decide)
    (he:starEach (e :: es) X.env=(false,eval e X.env) :: starEach es X.env:=by rfl) (hpl:(backTo pos (starEach es X.env)).any (·.1)=false:=by rfl):EM X ms (.Call (.Name x p) (e :: es) [] pos) (mCall g ma) :=
  PE.imp (pe_callTy hc hg hm hv ha hn hdb he hpl) fun _ _ _ h=>tCB_of h
noncomputable def spM (K:PySem.W.Frag) (n:Nat) (g:List PV→Option PV):Sp:=fun vs H Q _=>vs.length=n∧rMA K g vs H Q
noncomputable def spO (K:PySem.W.Frag) (n:Nat) (g:List PV→Option (List PV)):Sp:=fun vs H Q _=>vs.length=n∧rMAO K g vs H Q
noncomputable def ar (n:Nat) (ma:PEnv→Option (List PV)):PEnv→Option (List PV):=fun γ=>(ma γ).bind fun xs=>if xs.length=n then some xs else none
theorem tCall_of {K:PySem.W.Frag} {n:Nat} {g:List PV→Option PV} {E:XK} {σ:St} {H:Hp} {Q:VK} (hn:∀ ps r,g ps=some r→ps.length=n) (h:tM K ms (mCall g ma) σ H Q):tCall (spM K n g) [] E (tMA K ms ma) σ H Q:=by
  refine xq fun _ kq=>?_
  refine x3_4 (h) fun F γ r k1 k2 k3 w => ?_
  refine x1_2 (bind_get k3) fun xs e1 k3 => ?_
  apply kq
  refine ⟨F,γ,xs,k1,k2,e1,fun vs H1 F1 g1 q1 => ?_⟩
  dsimp only
  rw [List.append_nil]
  exact ⟨by rw [q1.length];exact hn _ _ k3,F1,xs,r,g1.sub,q1,k3,w.go g1⟩
theorem tCallO_of {K:PySem.W.Frag} {n:Nat} {g:List PV→Option (List PV)} {E:XK} {σ:St} {H:Hp} {Q:VK} (hn:∀ ps r,g ps=some r→ps.length=n) (h:tMO K ms (mCall g ma) σ H Q):tCall (spO K n g) [] E (tMA K ms ma) σ H Q:=by
  refine xq fun _ kq=>?_
  refine x3_4 (h) fun F γ r k1 k2 k3 w => ?_
  refine x1_2 (bind_get k3) fun xs e1 k3 => ?_
  apply kq
  refine ⟨F,γ,xs,k1,k2,e1,fun vs H1 F1 g1 q1 => ?_⟩
  dsimp only
  rw [List.append_nil]
  exact ⟨by rw [q1.length];exact hn _ _ k3,F1,xs,r,g1.sub,q1,k3,w.go g1⟩
variable {CX:CXT} {k n:Nat} {f:Addr} {fd:FuncData} {ps:List Str}
theorem em_call {g:List PV→Option PV} (F:FnOk X.prog X.w X.K X.mg X.base CX0 k f fd ps (spM X.K n g)) (hn:∀ ps r,g ps=some r→ps.length=n) (hr:Room k X.A) (hg:Gl X x) (hm:X.mg x=some (.ref f)) (hk:PySem.W.keepIn X.K (.ref f)=true) (hb:Binds X.K fd ps [])
    (ha:AM X ms (e :: es) ma) (hdb:(x==("__debug__":Str))=false:=by decide) (he:starEach (e :: es) X.env=(false,eval e X.env) :: starEach es X.env:=by rfl) (hpl:(backTo pos (starEach es X.env)).any (·.1)=false:=by rfl) :
    EM X ms (.Call (.Name x p) (e :: es) [] pos) (mCall g ma) :=
  PE.imp (pe_call (E:=E0) F hr hg hm hk hb .nil pass0 ha hdb he hpl) fun _ _ _ h=>tCall_of hn h
theorem eo_call {g:List PV→Option (List PV)} (F:FnOk X.prog X.w X.K X.mg X.base CX0 k f fd ps (spO X.K n g)) (hn:∀ ps r,g ps=some r→ps.length=n) (hr:Room k X.A) (hg:Gl X x) (hm:X.mg x=some (.ref f)) (hk:PySem.W.keepIn X.K (.ref f)=true) (hb:Binds X.K fd ps [])
    (ha:AM X ms (e :: es) ma) (hdb:(x==("__debug__":Str))=false:=by decide) (he:starEach (e :: es) X.env=(false,eval e X.env) :: starEach es X.env:=by rfl) (hpl:(backTo pos (starEach es X.env)).any (·.1)=false:=by rfl) :
    EO X ms (.Call (.Name x p) (e :: es) [] pos) (mCall g ma) :=
  PE.imp (pe_call (E:=E0) F hr hg hm hk hb .nil pass0 ha hdb he hpl) fun _ _ _ h=>tCallO_of hn h
end
end L2.PM

set_option Elab.async false
set_option linter.all false
set_option maxRecDepth 100000
noncomputable section
namespace L2.PM
open PySem PySem.Spec PyProof.Rows

inductive Out where
  | nx (γ:PEnv) | rt (p:PV) | ro (xs:List PV) | bk (γ:PEnv) | ct (γ:PEnv)
noncomputable abbrev MSt:=PEnv→Option Out
noncomputable def flat:PV→Bool
  | .tup _=>false
  | .lst _=>false
  | .obj _ _ _=>false
  | _=>true
theorem Rep.flat {K:PySem.W.Frag} {F F':Hp} {p:PV} {v:V} (f:flat p=true) (h:Rep K F p v):Rep K F' p v:=by
  cases p <;> unfold Rep at h ⊢ <;> first | exact h | (cases f;done)
theorem RepL.flat {K:PySem.W.Frag} {F F':Hp}:∀ {ps:List PV} {vs:List V},ps.all PM.flat=true→RepL K F ps vs→RepL K F' ps vs
  | [],_,_,h=>by unfold RepL at h ⊢;exact h
  | p :: ps,_,f,h=>by
    rw [List.all_cons,Bool.and_eq_true] at f
    unfold RepL at h
    refine xq fun _ kq=>?_
    refine x2_3 (h) fun v r zq1 h2 h3 => ?_
    obtain rfl:=zq1
    apply kq
    exact .cons (h2.flat f.1) (RepL.flat f.2 h3)

structure SR (K:PySem.W.Frag) (B F₀ F:Hp) (σ:St) (H:Hp) (γ:PEnv):Prop where
  sub:Same F H
  base:Same B H
  f0:Same F₀ F
  fb:∀ a o,F a=some o→F₀ a=some o∨B a=none
  len:σ.length=γ.length
  fz:∀ (i:Nat) p,γ[i]?=some (.fz p)→∃ v,σ[i]?=some (some v)∧Rep K F p v
  ow:∀ (i:Nat) xs,γ[i]?=some (.ow xs)→∃ a vs,σ[i]?=some (some (.ref a))∧H a=some (.lst vs)∧RepL K F xs vs∧F a=none∧B a=none
  dj:∀ (i j:Nat) xs ys a,i≠j→γ[i]?=some (.ow xs)→γ[j]?=some (.ow ys)→σ[i]?=some (some (.ref a))→σ[j]?≠some (some (.ref a))

noncomputable def frz1 (γ:PEnv) (i:Nat):PEnv:=match γ[i]? with
  | some (.ow xs)=>γ.set i (.fz (.lst xs))
  | _=>γ
noncomputable def frz (ms:List Nat) (γ:PEnv):PEnv:=ms.foldl frz1 γ
theorem getV_frz1 (γ:PEnv) (i j:Nat):getV (frz1 γ i) j=getV γ j:=by
  unfold frz1
  split
  · rename_i xs h
    unfold getV
    by_cases e:i=j
    · subst e
      have hi:i < γ.length:=(List.getElem?_eq_some_iff.mp h).1
      rw [List.getElem?_set_self hi,h]
      rfl
    · rw [List.getElem?_set_ne e]
  · rfl
theorem getV_frz:∀ (ms:List Nat) (γ:PEnv) (j:Nat),getV (frz ms γ) j=getV γ j
  | [],_,_=>rfl
  | i :: ms,γ,j=>by
    show getV (frz ms (frz1 γ i)) j=_
    rw [getV_frz ms,getV_frz1]

section
variable {K:PySem.W.Frag} {B F₀ F F' H H':Hp} {σ:St} {γ:PEnv}
theorem SR.frz1 (S:SR K B F₀ F σ H γ) (i:Nat):∃ F1,SR K B F₀ F1 σ H (frz1 γ i)∧Same F F1:=by
  unfold PM.frz1
  split
  · rename_i xs h
    refine xq fun _ kq=>?_
    refine x2_5 (S.ow i xs h) fun a vs h1 h2 h3 h4 h5 => ?_
    apply kq
    have hi:i < γ.length:=(List.getElem?_eq_some_iff.mp h).1
    have gx:Same F (upd F a (.lst vs)):=fun b u q=>by rw [upd_ne (ne_of_none q h4)];exact q
    refine ⟨upd F a (.lst vs),⟨fun b u q => ?_,S.base,S.f0.trans gx,fun b u q => ?_,by simpa using S.len,fun j p e => ?_,fun j ys e => ?_,fun j k ys zs c hjk e1 e2 e3 => ?_⟩,gx⟩
    · by_cases z:b=a
      · subst z;rw [upd_same] at q;rw [h2];exact q
      · rw [upd_ne z] at q;exact S.sub b u q
    · by_cases z:b=a
      · subst z;exact .inr h5
      · rw [upd_ne z] at q;exact S.fb b u q
    · by_cases e':i=j
      · subst e'
        rw [List.getElem?_set_self hi] at e
        cases e
        refine ⟨.ref a,h1,?_⟩
        unfold Rep
        exact ⟨a,vs,rfl,.of upd_same,h3.mono gx⟩
      · rw [List.getElem?_set_ne e'] at e
        refine x1_2 (S.fz j p e) fun v k1 k2 => ?_
        exact ⟨v,k1,k2.mono gx⟩
    · by_cases e':i=j
      · subst e'
        rw [List.getElem?_set_self hi] at e
        cases e
      · rw [List.getElem?_set_ne e'] at e
        refine xq fun _ kq=>?_
        refine x2_5 (S.ow j ys e) fun c us k1 k2 k3 k4 k5 => ?_
        apply kq
        have hca:c≠a:=fun z=>by
          subst z
          exact S.dj i j xs ys c e' h e h1 k1
        exact ⟨c,us,k1,k2,k3.mono gx,by rw [upd_ne hca];exact k4,k5⟩
    · have f:∀ (n:Nat) (zs:List PV),(γ.set i (.fz (.lst xs)))[n]?=some (.ow zs)→γ[n]?=some (.ow zs):=fun n zs q=>by
        by_cases e':i=n
        · subst e'
          rw [List.getElem?_set_self hi] at q
          cases q
        · rw [List.getElem?_set_ne e'] at q;exact q
      exact S.dj j k ys zs c hjk (f j ys e1) (f k zs e2) e3
  · exact ⟨F,S,Same.refl _⟩
theorem SR.frz:∀ (ms:List Nat) {F:Hp} {γ:PEnv},SR K B F₀ F σ H γ→∃ F1,SR K B F₀ F1 σ H (frz ms γ)∧Same F F1
  | [],F,_,S=>⟨F,S,Same.refl _⟩
  | i :: ms,F,γ,S=>by
    refine xq fun _ kq=>?_
    refine x1_2 (S.frz1 i) fun F1 S1 e1 => ?_
    refine x1_2 (SR.frz ms S1) fun F2 S2 e2 => ?_
    apply kq
    exact ⟨F2,S2,e1.trans e2⟩
theorem frz1_keep {γ:PEnv} {i j:Nat} (h:∀ xs,γ[j]?≠some (.ow xs)):∀ xs,(PM.frz1 γ i)[j]?≠some (.ow xs):=fun xs=>by
  unfold PM.frz1
  split
  · rename_i ys e
    by_cases e':i=j
    · subst e'
      exact absurd e (h ys)
    · rw [List.getElem?_set_ne e'];exact h xs
  · exact h xs
theorem frz1_self {γ:PEnv} {i:Nat}:∀ xs,(PM.frz1 γ i)[i]?≠some (.ow xs):=fun xs=>by
  unfold PM.frz1
  split
  · rename_i ys e
    have hi:i < γ.length:=(List.getElem?_eq_some_iff.mp e).1
    rw [List.getElem?_set_self hi]
    intro z;cases z
  · rename_i h
    exact h xs
theorem frz_keep:∀ (ms:List Nat) {γ:PEnv} {j:Nat},(∀ xs,γ[j]?≠some (.ow xs))→∀ xs,(PM.frz ms γ)[j]?≠some (.ow xs)
  | [],_,_,h=>h
  | i :: ms,γ,j,h=>frz_keep ms (γ:=PM.frz1 γ i) (frz1_keep h)
theorem frz_mem:∀ (ms:List Nat) {γ:PEnv} {j:Nat},j∈ms→∀ xs,(PM.frz ms γ)[j]?≠some (.ow xs)
  | [],_,_,h=>by cases h
  | i :: ms,γ,j,h=>by
    rcases List.mem_cons.mp h with rfl | h
    · exact frz_keep ms (γ:=PM.frz1 γ j) frz1_self
    · exact frz_mem ms (γ:=PM.frz1 γ i) h
theorem SR.erep (S:SR K B F₀ F σ H γ) {ms:List Nat} (h:∀ i∈ms,∀ xs,γ[i]?≠some (.ow xs)):ERep K F σ γ ms:=fun i hi p e=>by
  unfold getV at e
  cases q:γ[i]? with
  | none=>rw [q] at e;cases e
  | some t =>
    cases t with
    | un=>rw [q] at e;cases e
    | fz p' =>
      rw [q] at e
      cases e
      exact S.fz i p q
    | ow xs=>exact absurd q (h i hi xs)
theorem SR.see (S:SR K B F₀ F σ H γ) (ms:List Nat):∃ F1,SR K B F₀ F1 σ H (PM.frz ms γ)∧Same F F1∧ERep K F1 σ γ ms:=by
  refine x1_2 (SR.frz ms S) fun F1 S1 e1 => ?_
  refine ⟨F1,S1,e1,fun i hi p e => ?_⟩
  exact S1.erep (ms:=ms) (fun j hj=>frz_mem ms hj) i hi p (by rw [getV_frz];exact e)
theorem SR.same (S:SR K B F₀ F σ H γ) (e:Same H H'):SR K B F₀ F σ H' γ :=
  ⟨S.sub.trans e,S.base.trans e,S.f0,S.fb,S.len,S.fz,fun i xs h=>by
    refine xq fun _ kq=>?_
    refine x2_3 (S.ow i xs h) fun a vs h1 h2 h3 => ?_
    apply kq
    exact ⟨a,vs,h1,e _ _ h2,h3⟩,S.dj⟩
theorem SR.grow (S:SR K B F₀ F σ H γ) (g:Grow F H F' H'):SR K B F₀ F' σ H' γ:=by
  refine ⟨g.sub,S.base.trans g.same,S.f0.trans g.ext,fun a o e => ?_,S.len,fun i p h => ?_,fun i xs h => ?_,S.dj⟩
  · rcases g.new a o e with z | z
    · exact S.fb a o z
    · exact .inr (S.base.free z)
  · refine x1_2 (S.fz i p h) fun v h1 h2 => ?_
    exact ⟨v,h1,h2.mono g.ext⟩
  · refine xq fun _ kq=>?_
    refine x2_5 (S.ow i xs h) fun a vs h1 h2 h3 h4 h5 => ?_
    apply kq
    refine ⟨a,vs,h1,g.same _ _ h2,h3.mono g.ext,?_,h5⟩
    cases q:F' a with
    | none=>rfl
    | some o =>
      rcases g.new a o q with z | z
      · rw [h4] at z;cases z
      · rw [h2] at z;cases z
theorem SR.setFz (S:SR K B F₀ F σ H γ) (i:Nat) {p:PV} {v:V} (r:Rep K F p v):SR K B F₀ F (σ.set i (some v)) H (γ.set i (.fz p)):=by
  have f:∀ (n:Nat) (zs:List PV),(γ.set i (.fz p))[n]?=some (.ow zs)→i≠n∧γ[n]?=some (.ow zs):=fun n zs q=>by
    by_cases e':i=n
    · subst e'
      by_cases hi:i < γ.length
      · rw [List.getElem?_set_self hi] at q;cases q
      · rw [List.getElem?_eq_none (by simpa using hi)] at q;cases q
    · rw [List.getElem?_set_ne e'] at q;exact ⟨e',q⟩
  refine ⟨S.sub,S.base,S.f0,S.fb,by simpa using S.len,fun j q e => ?_,fun j ys e => ?_,fun j k ys zs c hjk e1 e2 e3 => ?_⟩
  · by_cases e':i=j
    · subst e'
      by_cases hi:i < γ.length
      · rw [List.getElem?_set_self hi] at e
        cases e
        exact ⟨v,by rw [List.getElem?_set_self (by rw [S.len];exact hi)],r⟩
      · rw [List.getElem?_eq_none (by simpa using hi)] at e;cases e
    · rw [List.getElem?_set_ne e'] at e
      refine x1_2 (S.fz j q e) fun u h1 h2 => ?_
      exact ⟨u,by rw [List.getElem?_set_ne e'];exact h1,h2⟩
  · refine xq fun _ kq=>?_
    obtain ⟨ne,e⟩:=f j ys e
    refine x2_2 (S.ow j ys e) fun a vs h1 h2 => ?_
    apply kq
    exact ⟨a,vs,by rw [List.getElem?_set_ne ne];exact h1,h2⟩
  · obtain ⟨n1,e1⟩:=f j ys e1
    obtain ⟨n2,e2⟩:=f k zs e2
    rw [List.getElem?_set_ne n1] at e3
    rw [List.getElem?_set_ne n2]
    exact S.dj j k ys zs c hjk e1 e2 e3
theorem SR.setOw (S:SR K B F₀ F σ H γ) (i:Nat) {xs:List PV} {a:Addr} {vs:List V} (hH:H a=some (.lst vs)) (r:RepL K F xs vs) (nF:F a=none) (nB:B a=none)
    (nd:∀ (j:Nat) ys,i≠j→γ[j]?=some (.ow ys)→σ[j]?≠some (some (.ref a))):SR K B F₀ F (σ.set i (some (.ref a))) H (γ.set i (.ow xs)):=by
  refine ⟨S.sub,S.base,S.f0,S.fb,by simpa using S.len,fun j q e => ?_,fun j ys e => ?_,fun j k ys zs c hjk e1 e2 e3 e4 => ?_⟩
  · by_cases e':i=j
    · subst e'
      by_cases hi:i < γ.length
      · rw [List.getElem?_set_self hi] at e;cases e
      · rw [List.getElem?_eq_none (by simpa using hi)] at e;cases e
    · rw [List.getElem?_set_ne e'] at e
      refine x1_2 (S.fz j q e) fun u h1 h2 => ?_
      exact ⟨u,by rw [List.getElem?_set_ne e'];exact h1,h2⟩
  · by_cases e':i=j
    · subst e'
      by_cases hi:i < γ.length
      · rw [List.getElem?_set_self hi] at e
        cases e
        exact ⟨a,vs,by rw [List.getElem?_set_self (by rw [S.len];exact hi)],hH,r,nF,nB⟩
      · rw [List.getElem?_eq_none (by simpa using hi)] at e;cases e
    · rw [List.getElem?_set_ne e'] at e
      refine xq fun _ kq=>?_
      refine x2_2 (S.ow j ys e) fun b us h1 h2 => ?_
      apply kq
      exact ⟨b,us,by rw [List.getElem?_set_ne e'];exact h1,h2⟩
  · by_cases z1:i=j
    · subst z1
      by_cases hi:i < γ.length
      · rw [List.getElem?_set_self (by rw [S.len];exact hi)] at e3
        cases e3
        rw [List.getElem?_set_ne hjk] at e2 e4
        exact nd k zs hjk e2 e4
      · rw [List.getElem?_eq_none (by simpa using hi)] at e1;cases e1
    · rw [List.getElem?_set_ne z1] at e1 e3
      by_cases z2:i=k
      · subst z2
        by_cases hi:i < γ.length
        · rw [List.getElem?_set_self (by rw [S.len];exact hi)] at e4
          cases e4
          exact nd j ys z1 e1 e3
        · rw [List.getElem?_eq_none (by simpa using hi)] at e2;cases e2
      · rw [List.getElem?_set_ne z2] at e2 e4
        exact S.dj j k ys zs c hjk e1 e2 e3 e4
theorem SR.write (S:SR K B F₀ F σ H γ) {i:Nat} {xs ys:List PV} {a:Addr} {us:List V} (hi:γ[i]?=some (.ow xs)) (ha:σ[i]?=some (some (.ref a))) (r:RepL K F ys us) :
    SR K B F₀ F σ (upd H a (.lst us)) (γ.set i (.ow ys)):=by
  refine xq fun _ kq=>?_
  refine x2_5 (S.ow i xs hi) fun a' vs h1 h2 h3 h4 h5 => ?_
  apply kq
  rw [ha] at h1
  cases h1
  have hil:i < γ.length:=(List.getElem?_eq_some_iff.mp hi).1
  have stay:∀ b o,H b=some o→b≠a→upd H a (.lst us) b=some o:=fun b o e n=>by rw [upd_ne n];exact e
  refine ⟨fun b o e=>stay b o (S.sub b o e) (ne_of_none e h4),fun b o e=>stay b o (S.base b o e) (ne_of_none e h5),S.f0,S.fb,by simpa using S.len,fun j q e => ?_,fun j zs e => ?_,fun j k ws zs c hjk e1 e2 e3 e4 => ?_⟩
  · by_cases e':i=j
    · subst e'
      rw [List.getElem?_set_self hil] at e;cases e
    · rw [List.getElem?_set_ne e'] at e;exact S.fz j q e
  · by_cases e':i=j
    · subst e'
      rw [List.getElem?_set_self hil] at e
      cases e
      exact ⟨a,us,ha,upd_same,r,h4,h5⟩
    · rw [List.getElem?_set_ne e'] at e
      refine xq fun _ kq=>?_
      refine x2_3 (S.ow j zs e) fun b ts k1 k2 k3 => ?_
      apply kq
      have hb:b≠a:=fun z=>by
        subst z
        exact S.dj i j xs zs b e' hi e ha k1
      exact ⟨b,ts,k1,stay _ _ k2 hb,k3⟩
  · have f:∀ (n:Nat) (ws:List PV),(γ.set i (.ow ys))[n]?=some (.ow ws)→∃ ws',γ[n]?=some (.ow ws'):=fun n ws q=>by
      by_cases e':i=n
      · subst e';exact ⟨xs,hi⟩
      · rw [List.getElem?_set_ne e'] at q;exact ⟨ws,q⟩
    obtain ⟨ws',e1⟩:=f j ws e1
    obtain ⟨zs',e2⟩:=f k zs e2
    exact S.dj j k _ _ c hjk e1 e2 e3 e4
theorem SR.up (S:SR K B F₀ F σ H γ) {F1:Hp} (e1:Same F₀ F1) (e:Same F1 F):SR K B F1 F σ H γ :=
  ⟨S.sub,S.base,e,fun a o q=>(S.fb a o q).imp (fun z=>e1 a o z) id,S.len,S.fz,S.ow,S.dj⟩
theorem SR.down {F1:Hp} (S:SR K B F1 F σ H γ) (e1:Same F₀ F1) (fb1:∀ a o,F1 a=some o→F₀ a=some o∨B a=none):SR K B F₀ F σ H γ :=
  ⟨S.sub,S.base,e1.trans S.f0,fun a o q=>(S.fb a o q).elim (fun z=>fb1 a o z) .inr,S.len,S.fz,S.ow,S.dj⟩
theorem Grow.down {F1:Hp} (g:Grow F1 B F' H') (e1:Same F₀ F1) (fb1:∀ a o,F1 a=some o→F₀ a=some o∨B a=none):Grow F₀ B F' H' :=
  ⟨e1.trans g.ext,g.sub,g.same,fun a o q=>(g.new a o q).elim (fun z=>fb1 a o z) .inr⟩
theorem SR.gr (S:SR K B F₀ F σ H γ):Grow F₀ B F H:=⟨S.f0,S.sub,S.base,S.fb⟩
end

noncomputable def OutOk (K:PySem.W.Frag) (B F₀:Hp) (D:Ends):Out→Prop
  | .nx γ=>∀ σ H F,SR K B F₀ F σ H γ→D.nx σ H
  | .rt p=>∀ v H F,Grow F₀ B F H→Rep K F p v→D.rt v H
  | .ro xs=>∀ a vs H F,Grow F₀ B F H→B a=none→F a=none→H a=some (.lst vs)→RepL K F xs vs→D.rt (.ref a) H
  | .bk γ=>∀ σ H F,SR K B F₀ F σ H γ→D.bk σ H
  | .ct γ=>∀ σ H F,SR K B F₀ F σ H γ→D.ct σ H
noncomputable def tMS (K:PySem.W.Frag) (m:MSt):TS:=fun D σ H=>∃ B F₀ F γ o,SR K B F₀ F σ H γ∧m γ=some o∧OutOk K B F₀ D o
noncomputable def SM (X:Cx) (st:Stmt) (m:MSt):Prop:=PS X st (tMS X.K m)
noncomputable def SMs (X:Cx) (sts:List Stmt) (m:MSt):Prop:=PSs X sts (tMS X.K m)

section
variable {X:Cx} {e a b c:Expr} {st:Stmt} {sts:List Stmt} {ms ns ls:List Nat} {m m1 m2 m3:MEx} {s1 s2:MSt} {pos p2:Pos}
theorem _root_.L2.PSs.imp {t t':TS} (h:PSs X sts t) (i:∀ D σ H,t' D σ H→t D σ H):PSs X sts t':=fun pins s σ H D I q=>h pins s σ H D I (i D σ H q)
noncomputable def sNx:MSt:=fun γ=>some (.nx γ)
noncomputable def sSeq (s1 s2:MSt):MSt:=fun γ=>(s1 γ).bind fun o=>match o with
  | .nx γ'=>s2 γ'
  | o=>some o
theorem ss_nil:SMs X [] sNx:=PSs.imp pss_nil fun D σ H hq9=>x5_3 hq9 fun B F₀ F γ o S e ok=>by
  cases e
  exact ok σ H F S
theorem ss_one (h:SM X st s1):SMs X [st] s1:=pss_one h
theorem ss_cons (h:SM X st s1) (hr:SMs X sts s2):SMs X (st :: sts) (sSeq s1 s2):=PSs.imp (pss_cons h hr) fun D σ H hq9=>x5_3 hq9 fun B F₀ F γ o S e ok=>by
  refine x1_2 (bind_get e) fun o1 e1 e2 => ?_
  refine ⟨B,F₀,F,γ,o1,S,e1,?_⟩
  cases o1 with
  | nx γ'=>exact fun σ' H' F' S'=>⟨B,F₀,F',γ',o,S',e2,ok⟩
  | rt p=>cases e2;exact ok
  | ro xs=>cases e2;exact ok
  | bk γ'=>cases e2;exact ok
  | ct γ'=>cases e2;exact ok
noncomputable def sBk:MSt:=fun γ=>some (.bk γ)
noncomputable def sCt:MSt:=fun γ=>some (.ct γ)
theorem sm_break:SM X (.Break pos) sBk:=PS.imp ps_break fun D σ H hq9=>x5_3 hq9 fun B F₀ F γ o S e ok=>by
  cases e
  exact ok σ H F S
noncomputable def sNo:MSt:=fun _=>none
theorem sm_no:SM X st sNo:=PS.imp ps_never fun D σ H hq9=>x5_3 hq9 fun B F₀ F γ o S e ok=>by cases e
noncomputable def sRet (m:MEx):MSt:=fun γ=>(m γ).map .rt
noncomputable def sRetO (m:PEnv→Option (List PV)):MSt:=fun γ=>(m γ).map .ro
noncomputable def sRetV (i:Nat):MSt:=fun γ=>match γ[i]? with
  | some (.ow xs)=>some (.ro xs)
  | some (.fz p)=>some (.rt p)
  | _=>none
noncomputable def sRetN:MSt:=fun _=>some (.rt .non)
theorem sm_ret (h:EM X ms e m):SM X (.Return (some e) pos) (sRet m):=PS.imp (ps_ret h) fun D σ H hq9=>x5_3 hq9 fun B F₀ F γ o S e ok=>by
  refine x1_2 (map_get e) fun r e1 e2 => ?_
  subst e2
  refine xq fun _ kq=>?_
  refine x1_3 (S.see ms) fun F1 S1 x1 er => ?_
  apply kq
  exact ⟨F1,γ,r,S1.sub,er,e1,fun v H' F' g q=>ok v H' F' (S1.grow g).gr q⟩
theorem sm_retO {m:PEnv→Option (List PV)} (h:EO X ms e m):SM X (.Return (some e) pos) (sRetO m):=PS.imp (ps_ret h) fun D σ H hq9=>x5_3 hq9 fun B F₀ F γ o S e ok=>by
  refine x1_2 (map_get e) fun r e1 e2 => ?_
  subst e2
  refine xq fun _ kq=>?_
  refine x1_3 (S.see ms) fun F1 S1 x1 er => ?_
  apply kq
  exact ⟨F1,γ,r,S1.sub,er,e1,fun a vs H' F' g n nF hH q=>ok a vs H' F' (S1.grow g).gr (S1.base.free n) nF hH q⟩
theorem sm_retV (i:Nat) {x:Str} (h:PE X (.Name x p2) (tVar i)):SM X (.Return (some (.Name x p2)) pos) (sRetV i):=PS.imp (ps_ret h) fun D σ H hq9=>x5_3 hq9 fun B F₀ F γ o S e ok=>by
  unfold sRetV at e
  split at e
  · rename_i xs h
    cases e
    refine xq fun _ kq=>?_
    refine x2_5 (S.ow i xs h) fun a vs h1 h2 h3 h4 h5 => ?_
    apply kq
    exact ⟨.ref a,h1,ok a vs H F S.gr h5 h4 h2 h3⟩
  · rename_i p h
    cases e
    refine x1_2 (S.fz i p h) fun v h1 h2 => ?_
    exact ⟨v,h1,ok v H F S.gr h2⟩
  · cases e
noncomputable def sIf (t:PEnv→Option Bool) (s1 s2:MSt):MSt:=fun γ=>(t γ).bind fun k=>if k=true then s1 γ else s2 γ
theorem sm_if {t:PEnv→Option Bool} {xs ys:List Stmt} (hc:TM X ms c t) (ha:SMs X xs s1) (hb:SMs X ys s2):SM X (.If c xs ys pos) (sIf t s1 s2):=PS.imp (ps_if hc ha hb) fun D σ H hq9=>x5_3 hq9 fun B F₀ F γ o S e ok=>by
  refine xq fun _ kq=>?_
  refine x1_2 (bind_get e) fun k e1 e2 => ?_
  refine x1_3 (S.see ms) fun F1 S1 x1 er => ?_
  apply kq
  refine ⟨F1,γ,k,S1.sub,er,e1,fun H' F' g => ?_⟩
  cases k with
  | true=>rw [if_pos rfl] at e2 ⊢;exact ⟨B,F₀,F,γ,o,S.same g.same,e2,ok⟩
  | false=>rw [if_neg Bool.false_ne_true] at e2 ⊢;exact ⟨B,F₀,F,γ,o,S.same g.same,e2,ok⟩
noncomputable def keepE (k:Bool) (ms:List Nat) (γ:PEnv):PEnv:=if k=true then γ else frz ms γ
noncomputable def sSet (ms:List Nat) (i:Nat) (m:MEx):MSt:=fun γ=>(m γ).map fun r => .nx ((keepE (flat r) ms γ).set i (.fz r))
noncomputable def sSetO (ms:List Nat) (i:Nat) (m:PEnv→Option (List PV)):MSt:=fun γ=>(m γ).map fun xs => .nx ((keepE (xs.all flat) ms γ).set i (.ow xs))
theorem SR.val {K:PySem.W.Frag} {B F₀ F F1 F' H H':Hp} {σ:St} {γ:PEnv} {r:PV} {v:V} (S:SR K B F₀ F σ H γ) (S1:SR K B F₀ F1 σ H (PM.frz ms γ)) (g:Grow F1 H F' H') (q:Rep K F' r v) :
    ∃ F2,SR K B F₀ F2 σ H' (keepE (flat r) ms γ)∧Rep K F2 r v:=by
  unfold keepE
  cases f:flat r with
  | true=>rw [if_pos rfl];exact ⟨F,S.same g.same,q.flat f⟩
  | false=>rw [if_neg Bool.false_ne_true];exact ⟨F',S1.grow g,q⟩
theorem SR.valO {K:PySem.W.Frag} {B F₀ F F1 F' H H':Hp} {σ:St} {γ:PEnv} {r:List PV} {vs:List V} (S:SR K B F₀ F σ H γ) (x1:Same F F1) (S1:SR K B F₀ F1 σ H (PM.frz ms γ)) (g:Grow F1 H F' H') (q:RepL K F' r vs) :
    ∃ F2,SR K B F₀ F2 σ H' (keepE (r.all flat) ms γ)∧RepL K F2 r vs∧Same F2 F':=by
  unfold keepE
  cases f:r.all flat with
  | true=>rw [if_pos rfl];exact ⟨F,S.same g.same,q.flat f,x1.trans g.ext⟩
  | false=>rw [if_neg Bool.false_ne_true];exact ⟨F',S1.grow g,q,Same.refl _⟩
theorem sm_set {i:Nat} {x:Str} (hN:X.N.Nodup) (hi:X.N[i]?=some x) (hx:Loc X.env.scope x) (h:EM X ms e m) (hs:swapsWith e (some (.Name x p2)) pos.line X.env=pure false:=by rfl) (hf:X.fn x=true∨X.env.scope.names.lookup x=some .local:=by first | exact .inl rfl | exact .inr rfl | assumption) :
    SM X (.Assign [.Name x p2] e pos) (sSet ms i m):=PS.imp (ps_set hN hi hx h hs hf) fun D σ H hq9=>x5_3 hq9 fun B F₀ F γ o S e ok=>by
  refine x1_2 (map_get e) fun r e1 e2 => ?_
  subst e2
  refine xq fun _ kq=>?_
  refine x1_3 (S.see ms) fun F1 S1 x1 er => ?_
  apply kq
  refine ⟨F1,γ,r,S1.sub,er,e1,fun v H' F' g q => ?_⟩
  refine x1_2 (S.val S1 g q) fun F2 S2 q2 => ?_
  exact ok _ _ F2 (S2.setFz i q2)
theorem SR.setNew {K:PySem.W.Frag} {B F₀ F F1 F' H H':Hp} {σ:St} {γ:PEnv} {r:List PV} {vs:List V} {a:Addr} (S:SR K B F₀ F σ H γ) (x1:Same F F1) (S1:SR K B F₀ F1 σ H (PM.frz ms γ)) (g:Grow F1 H F' H') (n:H a=none) (nF:F' a=none) (hH:H' a=some (.lst vs)) (q:RepL K F' r vs) (i:Nat) :
    ∃ F2,SR K B F₀ F2 (σ.set i (some (.ref a))) H' ((keepE (r.all flat) ms γ).set i (.ow r)):=by
  refine xq fun _ kq=>?_
  refine x1_3 (S.valO x1 S1 g q) fun F2 S2 q2 x2 => ?_
  apply kq
  have own:∀ (j:Nat) ys,(keepE (r.all flat) ms γ)[j]?=some (.ow ys)→σ[j]?≠some (some (.ref a)):=fun j ys e1 e2=>by
    have key:∀ {F:Hp} {γ:PEnv},SR K B F₀ F σ H γ→γ[j]?=some (.ow ys)→False:=fun {F γ} T e1=>by
      refine xq fun _ kq=>?_
      refine x2_3 (T.ow j ys e1) fun b us h1 h2 _ => ?_
      apply kq
      rw [e2] at h1
      cases h1
      rw [n] at h2;cases h2
    unfold keepE at e1
    split at e1
    · exact key S e1
    · exact key S1 e1
  exact ⟨F2,S2.setOw i hH q2 (x2.free nF) (S.base.free n) fun j ys _ e1=>own j ys e1⟩
theorem sm_setO {i:Nat} {x:Str} {m:PEnv→Option (List PV)} (hN:X.N.Nodup) (hi:X.N[i]?=some x) (hx:Loc X.env.scope x) (h:EO X ms e m) (hs:swapsWith e (some (.Name x p2)) pos.line X.env=pure false:=by rfl) (hf:X.fn x=true∨X.env.scope.names.lookup x=some .local:=by first | exact .inl rfl | exact .inr rfl | assumption) :
    SM X (.Assign [.Name x p2] e pos) (sSetO ms i m):=PS.imp (ps_set hN hi hx h hs hf) fun D σ H hq9=>x5_3 hq9 fun B F₀ F γ o S e ok=>by
  refine x1_2 (map_get e) fun r e1 e2 => ?_
  subst e2
  refine xq fun _ kq=>?_
  refine x1_3 (S.see ms) fun F1 S1 x1 er => ?_
  apply kq
  refine ⟨F1,γ,r,S1.sub,er,e1,fun a vs H' F' g n nF hH q => ?_⟩
  obtain ⟨F2,S2⟩:=S.setNew x1 S1 g n nF hH q i
  exact ok _ _ F2 S2
noncomputable def sExp (ms:List Nat) (m:MEx):MSt:=fun γ=>(m γ).map fun _ => .nx γ
end
end L2.PM

set_option Elab.async false
set_option linter.all false
set_option maxRecDepth 100000
noncomputable section
namespace L2.PM
open PySem PySem.Spec PyProof.Rows

theorem _root_.L2.PG.imp {X:Cx} {e:Expr} {t t':TG} (h:PG X e t) (i:∀ v σ H Q,t' v σ H Q→t v σ H Q):PG X e t':=fun pins s σ H v u Q I r q=>h pins s σ H v u Q I r (i v σ H Q q)
theorem getV_keepE (k:Bool) (ms:List Nat) (γ:PEnv) (j:Nat):getV (keepE k ms γ) j=getV γ j:=by
  unfold keepE
  split
  · rfl
  · exact getV_frz ms γ j
theorem ERep.of_getV {K:PySem.W.Frag} {F:Hp} {σ:St} {γ γ':PEnv} {ms:List Nat} (h:ERep K F σ γ ms) (e:∀ j,getV γ j=getV γ' j):ERep K F σ γ' ms:=fun i hi p hp=>h i hi p (by rw [e];exact hp)
theorem frz_other:∀ (ms:List Nat) {γ:PEnv} {j:Nat},j∉ms→(frz ms γ)[j]?=γ[j]?
  | [],_,_,_=>rfl
  | i :: ms,γ,j,h=>by
    show (frz ms (frz1 γ i))[j]?=_
    rw [frz_other ms (fun z=>h (List.mem_cons_of_mem _ z))]
    unfold frz1
    split
    · rw [List.getElem?_set_ne (fun z=>h (by simp [z]))]
    · rfl
theorem keepE_own {k:Bool} {ms:List Nat} {γ:PEnv} {i:Nat} {xs:List PV} (h:γ[i]?=some (.ow xs)) (c:(k || !ms.contains i)=true):(keepE k ms γ)[i]?=some (.ow xs):=by
  unfold keepE
  cases k with
  | true=>rw [if_pos rfl];exact h
  | false =>
    rw [if_neg Bool.false_ne_true]
    have:i∉ms:=by simpa using c
    rw [frz_other ms this];exact h

section
variable {X:Cx} {e a b c:Expr} {st:Stmt} {sts:List Stmt} {ms ns ls:List Nat} {m m1 m2 m3 mi mv:MEx} {s1 s2:MSt} {pos p2 p3:Pos}

noncomputable def sAug (i:Nat) (f:PV→PV→Option PV) (m:MEx):MSt:=fun γ=>(getV γ i).bind fun x=>(m γ).bind fun y=>(f x y).bind fun r=>if flat r=true then some (.nx (γ.set i (.fz r))) else none
theorem sm_aug {i:Nat} {x:Str} {op:Operator} {f:PV→PV→Option PV} (hN:X.N.Nodup) (hi:X.N[i]?=some x) (hx:Loc X.env.scope x) (h:EM X ms e m) (ho:OpM X (inplaceOp op) f)
    (hf:X.fn x=true∨X.env.scope.names.lookup x=some .local:=by first | exact .inl rfl | exact .inr rfl | assumption):SM X (.AugAssign (.Name x p2) op e pos) (sAug i f m) :=
  PS.imp (ps_aug (ti:=rM2 X.K f) hN hi hx h ho hf) fun D σ H hq9=>x5_3 hq9 fun B F₀ F γ o S e ok=>by
    refine xq fun _ kq=>?_
    refine x1_2 (bind_get e) fun x e1 e => ?_
    refine x1_2 (bind_get e) fun y e2 e => ?_
    refine x1_2 (bind_get e) fun r e3 e => ?_
    obtain ⟨fl,rfl⟩:=ite_get e
    refine x1_3 (S.see (i :: ms)) fun F1 S1 x1 er => ?_
    refine x1_2 (er i (by simp) x e1) fun xv h1 h2 => ?_
    apply kq
    refine ⟨xv,h1,F1,γ,y,S1.sub,fun j hj=>er j (List.mem_cons_of_mem _ hj),e2,fun yv H' F' g q=>⟨F',x,y,r,g.sub,h2.mono g.ext,q,e3,fun zv H2 F2 g2 q2 => ?_⟩⟩
    exact ok _ _ F ((S.same (g.same.trans g2.same)).setFz i (q2.flat fl))

noncomputable def tMG (K:PySem.W.Frag) (ts:List Nat) (g:PV→PEnv→Option PEnv):TG:=fun v σ H Q=>∃ B F₀ F γ p γ',SR K B F₀ F σ H γ∧Rep K F p v∧g p γ=some γ' ∧
  ∀ σ',SR K B F₀ F σ' H γ'→σ'.length=σ.length→(∀ n,n∉ts→σ'[n]?=σ[n]?)→Q σ' H
noncomputable def GM (X:Cx) (ts:List Nat) (tg:Expr) (g:PV→PEnv→Option PEnv):Prop:=PG X tg (tMG X.K ts g)
noncomputable def gSet (i:Nat):PV→PEnv→Option PEnv:=fun p γ=>some (γ.set i (.fz p))
noncomputable def gSet2 (i j:Nat):PV→PEnv→Option PEnv:=fun p γ=>match p with
  | .tup [x,y]=>some ((γ.set i (.fz x)).set j (.fz y))
  | _=>none
noncomputable def gSet3 (i j k:Nat):PV→PEnv→Option PEnv:=fun p γ=>match p with
  | .tup [x,y,z]=>some (((γ.set i (.fz x)).set j (.fz y)).set k (.fz z))
  | _=>none
theorem gm_name {i:Nat} {x:Str} (h:PG X (.Name x pos) (gName i)):GM X [i] (.Name x pos) (gSet i):=PG.imp h fun v σ H Q hq9=>x6_4 hq9 fun B F₀ F γ p γ' S r e w=>by
  cases e
  refine w _ (S.setFz i r) (by simp) fun n hn => ?_
  rw [List.getElem?_set_ne (fun z=>hn (by simp [z]))]
theorem gm_tup2 {i j:Nat} {x y:Expr} {kt:Nat} (h:PG X (.Tuple [x,y] kt pos) (gTup X.K 2 (gCons (gName i) (gCons (gName j) gNil)))):GM X [i,j] (.Tuple [x,y] kt pos) (gSet2 i j) :=
  PG.imp h fun v σ H Q hq9=>x6_4 hq9 fun B F₀ F γ p γ' S r e w=>by
    unfold gSet2 at e
    split at e
    · rename_i x y
      cases e
      unfold Rep at r
      refine xq fun _ kq=>?_
      obtain ⟨a,vs,rfl,k2,k3⟩:=r
      apply kq
      unfold RepL at k3
      refine xq fun _ kq=>?_
      obtain ⟨v1,r1,rfl,q1,k3⟩:=k3
      apply kq
      unfold RepL at k3
      refine xq fun _ kq=>?_
      obtain ⟨v2,r2,rfl,q2,k3⟩:=k3
      apply kq
      unfold RepL at k3
      subst k3
      refine ⟨a,_,rfl,S.sub.seqT k2,rfl,v1,_,rfl,v2,_,rfl,rfl,?_⟩
      refine w _ ((S.setFz i q1).setFz j q2) (by simp) fun n hn => ?_
      rw [List.getElem?_set_ne (fun z=>hn (by simp [z])),List.getElem?_set_ne (fun z=>hn (by simp [z]))]
    · cases e
noncomputable def sAsg (ms:List Nat) (g:PV→PEnv→Option PEnv) (m:MEx):MSt:=fun γ=>(m γ).bind fun r=>(g r (keepE (flat r) ms γ)).map .nx
noncomputable def sApp (ms:List Nat) (i:Nat) (m:MEx):MSt:=fun γ=>match γ[i]? with
  | some (.ow xs)=>(m γ).bind fun r=>if xs.length < LIM∧(flat r || !ms.contains i)=true then some (.nx ((keepE (flat r) ms γ).set i (.ow (xs++[r])))) else none
  | _=>none
theorem tyV_list {K:PySem.W.Frag} {H:Hp} {a:Addr} {vs:List V} (h:SqL K H a vs):tyV K "list" (.ref a) H := .inl ⟨rfl,vs,h⟩
theorem sm_app {i:Nat} {x:Str} {apos cpos:Pos} (hx:PE X (.Name x p2) (tVar i)) (h:EM X ms e m) (ps:PS X (.Expr (.Call (.Attribute (.Name x p2) "append" apos) [e] [] cpos) pos) (tDrop (tBM X.K "list" rAppend (tVar i) (tMA X.K ms (aCons m aNil))))) :
    SM X (.Expr (.Call (.Attribute (.Name x p2) "append" apos) [e] [] cpos) pos) (sApp ms i m):=PS.imp ps fun D σ H hq9=>x5_3 hq9 fun B F₀ F γ o S e ok=>by
  unfold sApp at e
  split at e
  · rename_i xs hi
    refine xq fun _ kq=>?_
    obtain ⟨r,e1,e⟩:=bind_get e
    obtain ⟨⟨hl,c⟩,rfl⟩:=ite_get e
    obtain ⟨a,vs,h1,h2,_⟩:=S.ow i xs hi
    obtain ⟨F1,S1,x1,er⟩:=S.see ms
    apply kq
    refine ⟨.ref a,h1,tyV_list (.of h2),F1,γ,[r],S1.sub,er,by simp [aCons,aNil,e1],fun us H' F' g q => ?_⟩
    unfold RepL at q
    refine xq fun _ kq=>?_
    obtain ⟨v,t,rfl,q,qt⟩:=q
    apply kq
    unfold RepL at qt
    subst qt
    refine xq fun _ kq=>?_
    obtain ⟨F2,S2,q2⟩:=S.val S1 g q
    have hi2:=keepE_own (k:=flat r) hi c
    obtain ⟨a2,vs2,k1,k2,k3,_⟩:=S2.ow i xs hi2
    apply kq
    rw [h1] at k1
    cases k1
    refine ⟨a,vs2,v,rfl,rfl,k2,?_,?_⟩
    · rw [k3.length];exact Nat.lt_of_lt_of_le hl lim_line
    · exact ok _ _ F2 (S2.write hi2 h1 (k3.snoc q2))
  · cases e
noncomputable def sSetIx (ms:List Nat) (i:Nat) (mv mi:MEx):MSt:=fun γ=>match γ[i]? with
  | some (.ow xs)=>(mv γ).bind fun r=>(mi γ).bind fun k=>match k with
    | .int j=>(ixN xs.length j).bind fun n=>if (flat r || !ms.contains i)=true then some (.nx ((keepE (flat r) ms γ).set i (.ow (xs.set n r)))) else none
    | _=>none
  | _=>none
theorem sm_setIx {i:Nat} {x:Str} (hx:PE X (.Name x p2) (tVar i)) (hv:EM X ms e mv) (hi:EM X ns b mi) (hs:swapsWithSole [.Subscript (.Name x p2) b p3] e pos.line X.env=pure false:=by rfl) (hw:swappedStores [.Subscript (.Name x p2) b p3] e X.env=pure none:=by rfl)
    (h1:(assignEach [.Subscript (.Name x p2) b p3] X.env).map (·.2)=[assign (.Subscript (.Name x p2) b p3) X.env]:=by rfl)
    (ha:∀ v,assign (.Subscript (.Name x p2) b p3) X.env v=(do
      let ov ← holding [v] (eval (.Name x p2) X.env)
      let iv ← holding [v,ov] (eval b X.env)
      standAt p3
      holding [v,ov,iv] (setItem ov iv v)
      release [v,ov,iv] []):=by intro _;rfl):SM X (.Assign [.Subscript (.Name x p2) b p3] e pos) (sSetIx ms i mv mi):=PS.imp (ps_asg hv (pg_sub hx hi set_list ha) hs hw h1) fun D σ H hq9=>x5_3 hq9 fun B F₀ F γ o S e ok=>by
  unfold sSetIx at e
  split at e
  · rename_i xs hi
    refine xq fun _ kq=>?_
    refine x1_2 (bind_get e) fun r e1 e => ?_
    refine x1_2 (bind_get e) fun k e2 e => ?_
    apply kq
    split at e
    · rename_i j
      refine xq fun _ kq=>?_
      refine x1_2 (bind_get e) fun n e3 e => ?_
      obtain ⟨c,rfl⟩:=ite_get e
      refine x1_3 (S.see ms) fun F1 S1 x1 er => ?_
      apply kq
      refine ⟨F1,γ,r,S1.sub,er,e1,fun v H' F' g q => ?_⟩
      refine xq fun _ kq=>?_
      refine x1_2 (S.val S1 g q) fun F2 S2 q2 => ?_
      have hi2:=keepE_own (k:=flat r) hi c
      refine x2_2 (S2.ow i xs hi2) fun a vs k1 _ => ?_
      refine x1_3 (S2.see ns) fun F3 S3 x3 er3 => ?_
      apply kq
      refine ⟨.ref a,k1,F3,γ,.int j,S3.sub,er3.of_getV (getV_keepE _ _ _),e2,fun kv H2 F4 g2 qk => ?_⟩
      unfold Rep at qk
      have S4:=S2.same g2.same
      refine xq fun _ kq=>?_
      refine x2_4 (S4.ow i xs hi2) fun a4 vs4 l1 l2 l3 _ => ?_
      apply kq
      rw [k1] at l1
      cases l1
      refine ⟨a,vs4,j,n,rfl,qk,l2,by rw [l3.length];exact e3,?_⟩
      exact ok _ _ F2 (S4.write hi2 k1 (l3.set n q2))
    · cases e
  · cases e

structure ItRep (K:PySem.W.Frag) (J:It) (F:Hp) (xs:List PV):Prop where
  go:∀ i H,i < xs.length→Same F H→J.go i H
  yld:∀ i H x H',i < xs.length→Same F H→J.yld i H x H'→∃ p,xs[i]?=some p∧∀ F1,Same F F1→Same F1 H→∃ F2,Grow F1 H F2 H'∧Rep K F2 p x
  stop:∀ H,Same F H→J.stop xs.length H
noncomputable def tMI (K:PySem.W.Frag) (ms:List Nat) (m:PEnv→Option (List PV)):TI:=fun σ H R=>∃ F γ xs,Same F H∧ERep K F σ γ ms∧m γ=some xs∧∀ J H' F',Grow F H F' H'→ItRep K J F' xs→R J H'
noncomputable def IM (X:Cx) (ms:List Nat) (tg iter:Expr) (m:PEnv→Option (List PV)):Prop:=PI X tg iter (tMI X.K ms m)
theorem _root_.L2.PI.imp {tg:Expr} {t t':TI} (h:PI X tg e t) (i:∀ σ H R,t' σ H R→t σ H R):PI X tg e t':=fun pins s σ H R I q=>h pins s σ H R I (i σ H R q)
noncomputable def iLst (m:MEx):PEnv→Option (List PV):=fun γ=>(m γ).bind fun p=>match p with
  | .lst xs=>some xs
  | _=>none
noncomputable def iTpl (m:MEx):PEnv→Option (List PV):=fun γ=>(m γ).bind fun p=>match p with
  | .tup xs=>some xs
  | _=>none
theorem im_lst {tg:Expr} (h:EM X ms e m):IM X ms tg e (iLst m):=PI.imp (pi_list h) fun σ H R hq9=>x3_4 hq9 fun F γ xs h1 h2 h3 w=>by
  refine x1_2 (bind_get h3) fun p e1 e2 => ?_
  refine ⟨F,γ,p,h1,h2,e1,fun v H' F' g q => ?_⟩
  cases p with
  | lst ys =>
    cases e2
    unfold Rep at q
    refine xq fun _ kq=>?_
    refine x2_3 (q) fun a vs zq1 k2 k3 => ?_
    obtain rfl:=zq1
    apply kq
    refine ⟨a,rfl,⟨vs,g.sub.seq k2⟩,w _ _ _ g ?_⟩
    refine ⟨fun i H hi e => ?_,fun i H x H' hi e y => ?_,fun H e => ?_⟩
    · have hv:i < vs.length:=by rw [k3.length];exact hi
      exact ⟨vs,vs[i],e.seq k2,by simp [hv]⟩
    · refine xq fun _ kq=>?_
      obtain ⟨rfl,y⟩:=y
      refine x1_2 (k3.back (y vs (e.seq k2))) fun p e2 e3 => ?_
      apply kq
      exact ⟨p,e2,fun F1 x1 x2=>⟨F1,.refl x2,e3.mono x1⟩⟩
    · exact ⟨vs,e.seq k2,by rw [k3.length];exact Nat.le_refl _⟩
  | _=>cases e2
theorem im_tup {tg:Expr} (h:EM X ms e m):IM X ms tg e (iTpl m):=PI.imp (pi_tup h) fun σ H R hq9=>x3_4 hq9 fun F γ xs h1 h2 h3 w=>by
  refine x1_2 (bind_get h3) fun p e1 e2 => ?_
  refine ⟨F,γ,p,h1,h2,e1,fun v H' F' g q => ?_⟩
  cases p with
  | tup ys =>
    cases e2
    unfold Rep at q
    refine xq fun _ kq=>?_
    refine x2_3 (q) fun a vs zq1 k2 k3 => ?_
    obtain rfl:=zq1
    apply kq
    refine ⟨a,rfl,⟨vs,g.sub.seqT k2⟩,w _ _ _ g ?_⟩
    refine ⟨fun i H hi e => ?_,fun i H x H' hi e y => ?_,fun H e => ?_⟩
    · have hv:i < vs.length:=by rw [k3.length];exact hi
      exact ⟨vs,vs[i],e.seqT k2,by simp [hv]⟩
    · refine xq fun _ kq=>?_
      obtain ⟨rfl,y⟩:=y
      refine x1_2 (k3.back (y vs (e.seqT k2))) fun p e2 e3 => ?_
      apply kq
      exact ⟨p,e2,fun F1 x1 x2=>⟨F1,.refl x2,e3.mono x1⟩⟩
    · exact ⟨vs,e.seqT k2,by rw [k3.length];exact Nat.le_refl _⟩
  | _=>cases e2
noncomputable def rngL (lo hi:Int):List PV:=(List.range (hi - lo).toNat).map fun k => .int (lo + (k:Nat))
theorem rngL_len (lo hi:Int):(rngL lo hi).length=(hi - lo).toNat:=by simp [rngL]
theorem itr_rep {K:PySem.W.Frag} {F:Hp} (lo hi:Int):ItRep K (Itr lo (hi - lo).toNat) F (rngL lo hi):=by
  refine ⟨fun i H hi' e => ?_,fun i H x H' hi' e y => ?_,fun H e => ?_⟩
  · rw [rngL_len] at hi';exact hi'
  · obtain ⟨rfl,rfl⟩:=y
    rw [rngL_len] at hi'
    exact ⟨.int (lo + i),by simp [rngL,hi'],fun F1 x1 x2=>⟨F1,.refl x2,rep_int _⟩⟩
  · show (hi - lo).toNat≤_
    rw [rngL_len];exact Nat.le_refl _
noncomputable def rOk (j:Int):Bool:=cls (-(2 ^ 62)≤j∧j < 2 ^ 62)
theorem rOk_get {j:Int} (h:rOk j=true) : -(2 ^ 62)≤j∧j < 2 ^ 62:=cls_get h
theorem rOk_of {j:Int} (h1 : -(2 ^ 62)≤j) (h2:j < 2 ^ 62):rOk j=true:=cls_of ⟨h1,h2⟩
noncomputable def iRg1 (m:MEx):PEnv→Option (List PV):=fun γ=>(m γ).bind fun p=>match p with
  | .int j=>if rOk j=true then some (rngL 0 j) else none
  | _=>none
noncomputable def iRg2 (m1 m2:MEx):PEnv→Option (List PV):=fun γ=>(m1 γ).bind fun p=>(m2 γ).bind fun q=>match p,q with
  | .int i,.int j=>if rOk i=true∧rOk j=true then some (rngL i j) else none
  | _,_=>none
theorem im_range1 {tg:Expr} (hg:Gl X "range") (hm:X.mg "range"=none) (ha:AM X ms [a] (aCons m aNil)) (hs:starEach [a] X.env=[(false,eval a X.env)]:=by rfl):IM X ms tg (.Call (.Name "range" p2) [a] [] pos) (iRg1 m) :=
  PI.imp (pi_range1 hg hm ha hs) fun σ H R hq9=>x3_4 hq9 fun F γ xs h1 h2 h3 w=>by
    obtain ⟨p,e1,e2⟩:=bind_get h3
    refine ⟨F,γ,[p],h1,h2,by simp [aCons,aNil,e1],fun vs H' F' g q => ?_⟩
    unfold RepL at q
    refine xq fun _ kq=>?_
    obtain ⟨v,t,rfl,q,qt⟩:=q
    apply kq
    unfold RepL at qt
    subst qt
    cases p with
    | int j =>
      obtain ⟨c,rfl⟩:=ite_get e2
      obtain ⟨c1,c2⟩:=rOk_get c
      unfold Rep at q
      subst q
      refine ⟨j,rfl,c1,c2,w _ _ _ g ?_⟩
      have:=itr_rep (K:=X.K) (F:=F') 0 j
      simpa using this
    | _=>cases e2
noncomputable def forL (g:PV→PEnv→Option PEnv) (b:MSt):List PV→PEnv→Option Out
  | [],γ=>some (.nx γ)
  | x :: xs,γ=>(g x γ).bind fun γ1=>(b γ1).bind fun o=>match o with
    | .nx γ2=>forL g b xs γ2
    | .ct γ2=>forL g b xs γ2
    | .bk γ2=>some (.nx γ2)
    | .rt p=>some (.rt p)
    | .ro ys=>some (.ro ys)
noncomputable def sFor (ms:List Nat) (mi:PEnv→Option (List PV)) (g:PV→PEnv→Option PEnv) (b:MSt):MSt:=fun γ=>(mi γ).bind fun xs=>forL g b xs (frz ms γ)
theorem for_core {K:PySem.W.Frag} {g:PV→PEnv→Option PEnv} {ts:List Nat} {sb:MSt} {D:Ends} {B F₀ F' H':Hp} {J:It} {xs:List PV} {γ1:PEnv} {σ:St} {o:Out} (S1:SR K B F₀ F' σ H' γ1) (it:ItRep K J F' xs) (e2:forL g sb xs γ1=some o) (ok:OutOk K B F₀ D o) :
    ∃ W:Nat→Nat→St→Hp→Prop,(∃ m,W 0 m σ H')∧∀ i m σ H,W i m σ H →
      (J.stop i H∧D.nx σ H)∨(J.go i H∧∃ N:St→Hp→Prop,(∀ σ' H',N σ' H'→∃ m',m' < m∧W (i + 1) m' σ' H')∧∀ x H',J.yld i H x H'→tMG K ts g x σ H' fun σ2 H2=>tMS K sb { D with nx:=N,ct:=N,bk:=D.nx } σ2 H2):=by
  refine ⟨fun i m σ H=>m=xs.length - i∧i≤xs.length∧∃ F γ,SR K B F₀ F σ H γ∧Same F' F∧forL g sb (xs.drop i) γ=some o,⟨xs.length,by simp,Nat.zero_le _,F',γ1,S1,Same.refl _,by simpa using e2⟩,?_⟩
  rintro i m σ2 H2 ⟨rfl,hi,F2,γ2,S2,x2,e2⟩
  by_cases hlt:i < xs.length
  · refine .inr ⟨it.go i H2 hlt (x2.trans S2.sub),fun σ H=>∃ F γ,SR K B F₀ F σ H γ∧Same F' F∧forL g sb (xs.drop (i + 1)) γ=some o,fun σ' H' q=>⟨xs.length - (i + 1),by omega,rfl,hlt,q⟩,fun x H3 y => ?_⟩
    refine xq fun _ kq=>?_
    refine x1_2 (it.yld i H2 x H3 hlt (x2.trans S2.sub) y) fun p e3 hy => ?_
    refine x1_2 (hy F2 x2 S2.sub) fun F3 g3 r3 => ?_
    apply kq
    have S3:=S2.grow g3
    have ed:xs.drop i=p :: xs.drop (i + 1):=by
      have q:=(List.getElem?_eq_some_iff.mp e3)
      obtain ⟨q1,q2⟩:=q
      rw [← q2]
      exact List.drop_eq_getElem_cons q1
    rw [ed] at e2
    unfold forL at e2
    refine xq fun _ kq=>?_
    refine x1_2 (bind_get e2) fun γ4 e4 e2 => ?_
    refine x1_2 (bind_get e2) fun ob e5 e2 => ?_
    apply kq
    refine ⟨B,F₀,F3,γ2,p,γ4,S3,r3,e4,fun σ4 S4 _ _ => ?_⟩
    have x3:Same F' F3:=x2.trans g3.ext
    refine ⟨B,F',F3,γ4,ob,S4.up S1.f0 x3,e5,?_⟩
    cases ob with
    | nx γ5=>exact fun σ H F S=>⟨F,γ5,S.down S1.f0 S1.fb,S.f0,e2⟩
    | ct γ5=>exact fun σ H F S=>⟨F,γ5,S.down S1.f0 S1.fb,S.f0,e2⟩
    | bk γ5 =>
      cases e2
      exact fun σ H F S=>ok σ H F (S.down S1.f0 S1.fb)
    | rt p =>
      cases e2
      exact fun v H F gr r=>ok v H F (gr.down S1.f0 S1.fb) r
    | ro ys =>
      cases e2
      exact fun a vs H F gr n nF hH r=>ok a vs H F (gr.down S1.f0 S1.fb) n nF hH r
  · have e:i=xs.length:=by omega
    subst e
    rw [List.drop_length] at e2
    cases e2
    exact .inl ⟨it.stop H2 (x2.trans S2.sub),ok σ2 H2 F2 S2⟩
theorem sm_for {tg iter:Expr} {ts:List Nat} {mi:PEnv→Option (List PV)} {g:PV→PEnv→Option PEnv} {sb:MSt} {body:List Stmt} (hp:PassesOwn (model X.prog X.w) X.A X.env X.xe) (hc:X.calm=true) (hi:IM X ms tg iter mi) (hg:GM X ts tg g) (hb:SMs X body sb)
    (hs:∀ x,foldedSetIterable iter X.env x=pure x:=by intro _;rfl):SM X (.For tg iter body [] pos) (sFor ms mi g sb):=PS.imp (ps_for hp hc hi hg hb hs) fun D σ H hq9=>x5_3 hq9 fun B F₀ F γ o S e ok=>by
  refine xq fun _ kq=>?_
  refine x1_2 (bind_get e) fun xs e1 e2 => ?_
  refine x1_3 (S.see ms) fun F1 S1 x1 er => ?_
  apply kq
  exact ⟨F1,γ,xs,S1.sub,er,e1,fun J H' F' gr it=>for_core (S1.grow gr) it e2 ok⟩
noncomputable def sForR (mi:PEnv→Option (List PV)) (g:PV→PEnv→Option PEnv) (b:MSt):MSt:=fun γ=>(mi γ).bind fun xs=>forL g b xs γ
noncomputable def IMR (X:Cx) (ms:List Nat) (tg iter:Expr) (m:PEnv→Option (List PV)):Prop:=PI X tg iter fun σ H R=>∃ F γ xs,Same F H∧ERep X.K F σ γ ms∧m γ=some xs∧∀ J H',Same H H'→(∀ F,ItRep X.K J F xs)→R J H'
theorem sm_forR {tg iter:Expr} {ts:List Nat} {mi:PEnv→Option (List PV)} {g:PV→PEnv→Option PEnv} {sb:MSt} {body:List Stmt} (hp:PassesOwn (model X.prog X.w) X.A X.env X.xe) (hc:X.calm=true) (hi:IMR X ms tg iter mi) (hg:GM X ts tg g) (hb:SMs X body sb)
    (hs:∀ x,foldedSetIterable iter X.env x=pure x:=by intro _;rfl):SM X (.For tg iter body [] pos) (sForR mi g sb):=PS.imp (ps_for hp hc hi hg hb hs) fun D σ H hq9=>x5_3 hq9 fun B F₀ F γ o S e ok=>by
  refine xq fun _ kq=>?_
  refine x1_2 (bind_get e) fun xs e1 e2 => ?_
  refine x1_3 (S.see ms) fun F1 S1 x1 er => ?_
  apply kq
  exact ⟨F1,γ,xs,S1.sub,er,e1,fun J H' sm it=>for_core (S.same sm) (it F) e2 ok⟩
theorem imr_range1 {tg:Expr} (hg:Gl X "range") (hm:X.mg "range"=none) (ha:AM X ms [a] (aCons m aNil)) (hs:starEach [a] X.env=[(false,eval a X.env)]:=by rfl):IMR X ms tg (.Call (.Name "range" p2) [a] [] pos) (iRg1 m) :=
  PI.imp (pi_range1 hg hm ha hs) fun σ H R hq9=>x3_4 hq9 fun F γ xs h1 h2 h3 w=>by
    obtain ⟨p,e1,e2⟩:=bind_get h3
    refine ⟨F,γ,[p],h1,h2,by simp [aCons,aNil,e1],fun vs H' F' g q => ?_⟩
    unfold RepL at q
    refine xq fun _ kq=>?_
    obtain ⟨v,t,rfl,q,qt⟩:=q
    apply kq
    unfold RepL at qt
    subst qt
    cases p with
    | int j =>
      obtain ⟨c,rfl⟩:=ite_get e2
      obtain ⟨c1,c2⟩:=rOk_get c
      unfold Rep at q
      subst q
      refine ⟨j,rfl,c1,c2,w _ _ g.same fun F => ?_⟩
      have:=itr_rep (K:=X.K) (F:=F) 0 j
      simpa using this
    | _=>cases e2
noncomputable def whileL (t:PEnv→Option Bool) (b:MSt):Nat→PEnv→Option Out
  | 0,_=>none
  | n + 1,γ=>(t γ).bind fun k=>if k=true then (b γ).bind fun o=>match o with
      | .nx γ2=>whileL t b n γ2
      | .ct γ2=>whileL t b n γ2
      | .bk γ2=>some (.nx γ2)
      | .rt p=>some (.rt p)
      | .ro ys=>some (.ro ys)
    else some (.nx γ)
noncomputable def sWhile (N:Nat) (t:PEnv→Option Bool) (b:MSt):MSt:=whileL t b N
theorem sm_while (N:Nat) {t:PEnv→Option Bool} {sb:MSt} {body:List Stmt} (hp:PassesOwn (model X.prog X.w) X.A X.env X.xe) (hc:TM X ms c t) (hb:SMs X body sb):SM X (.While c body [] pos) (sWhile N t sb):=PS.imp (ps_while hp hc hb) fun D σ H hq9=>x5_3 hq9 fun B F₀ F γ o S e ok=>by
  refine ⟨fun n σ H=>∃ F γ,SR X.K B F₀ F σ H γ∧whileL t sb n γ=some o,⟨N,F,γ,S,e⟩,?_⟩
  rintro n σ1 H1 ⟨F1,γ1,S1,e1⟩
  cases n with
  | zero=>cases e1
  | succ n =>
    unfold whileL at e1
    refine xq fun _ kq=>?_
    refine x1_2 (bind_get e1) fun k e2 e1 => ?_
    refine x1_3 (S1.see ms) fun F2 S2 x2 er => ?_
    apply kq
    refine ⟨F2,γ1,k,S2.sub,er,e2,fun H' F' g => ?_⟩
    cases k with
    | true =>
      rw [if_pos rfl] at e1 ⊢
      refine x1_2 (bind_get e1) fun ob e3 e1 => ?_
      refine ⟨fun σ H=>∃ F γ,SR X.K B F₀ F σ H γ∧whileL t sb n γ=some o,fun σ' H' q=>⟨n,Nat.lt_succ_self n,q⟩,B,F₀,F1,γ1,ob,S1.same g.same,e3,?_⟩
      cases ob with
      | nx γ5=>exact fun σ H F S=>⟨F,γ5,S,e1⟩
      | ct γ5=>exact fun σ H F S=>⟨F,γ5,S,e1⟩
      | bk γ5=>cases e1;exact ok
      | rt p=>cases e1;exact ok
      | ro ys=>cases e1;exact ok
    | false =>
      rw [if_neg Bool.false_ne_true] at e1 ⊢
      cases e1
      exact ok σ1 H' F1 (S1.same g.same)
end
end L2.PM

set_option Elab.async false
set_option linter.all false
set_option maxRecDepth 100000
noncomputable section
namespace L2.PM
open PySem PySem.Spec PyProof.Rows

noncomputable def capS (γ:PEnv) (j:Nat):Slot:=match getV γ j with
  | some p => .fz p
  | none => .un
noncomputable def blkG (nt:Nat) (caps:List Nat) (γ:PEnv):PEnv:=List.replicate nt .un++caps.map (capS γ)
noncomputable def compL (g:PV→PEnv→Option PEnv) (t:PEnv→Option Bool) (e:MEx) (γ:PEnv):List PV→Option (List PV)
  | []=>some []
  | x :: xs=>(g x γ).bind fun γ1=>(t γ1).bind fun k=>if k=true then (e γ1).bind fun y=>(compL g t e γ xs).map (y :: ·) else compL g t e γ xs
noncomputable def mComp (mi:PEnv→Option (List PV)) (nt:Nat) (caps:List Nat) (g:PV→PEnv→Option PEnv) (t:PEnv→Option Bool) (e:MEx):PEnv→Option (List PV) :=
  fun γ=>(mi γ).bind fun xs=>if xs.length≤LIM then compL g t e (blkG nt caps γ) xs else none
noncomputable def tYesM:PEnv→Option Bool:=fun _=>some true
noncomputable def IfM (X:Cx) (ms:List Nat) (ifs:List Expr) (t:PEnv→Option Bool):Prop:=PIfs X ifs (tMT X.K ms t)
theorem if_nil {X:Cx}:IfM X [] [] tYesM:=fun pins s σ H Q I hq9=>x3_4 hq9 fun F γ r h1 h2 h3 w=>pifs_nil pins s σ H Q I (by
  cases h3
  exact w H F (.refl h1))
theorem if_one {X:Cx} {ms:List Nat} {c:Expr} {t:PEnv→Option Bool} (h:TM X ms c t):IfM X ms [c] t:=pifs_one h

theorem blk_sr {K:PySem.W.Frag} {F H:Hp} {σ:St} {γ:PEnv} {nt:Nat} {caps:List Nat} (h:Same F H) (er:ERep K F σ γ caps):SR K H F F (blkSt nt caps σ) H (blkG nt caps γ):=by
  have key:∀ (i:Nat) (t:Slot),(blkG nt caps γ)[i]?=some t→t = .un∨∃ j p,caps[i - nt]?=some j∧nt≤i∧getV γ j=some p∧t = .fz p:=fun i t e=>by
    unfold blkG at e
    by_cases hi:i < nt
    · rw [List.getElem?_append_left (by simpa using hi),List.getElem?_replicate,if_pos hi] at e
      exact .inl (Option.some.inj e).symm
    · rw [List.getElem?_append_right (by simpa using hi),List.length_replicate,List.getElem?_map] at e
      cases q:caps[i - nt]? with
      | none=>rw [q] at e;cases e
      | some j =>
        rw [q] at e
        have e:capS γ j=t:=Option.some.inj e
        unfold capS at e
        split at e
        · rename_i p hp
          exact .inr ⟨j,p,rfl,by omega,hp,e.symm⟩
        · exact .inl e.symm
  refine ⟨h,Same.refl _,Same.refl _,fun a o e => .inl e,by simp [blkSt,blkG],fun i p e => ?_,fun i xs e => ?_,fun i j xs ys a _ e => ?_⟩
  · rcases key i _ e with z | ⟨j,p',e1,hi,e2,z⟩
    · cases z
    · cases z
      refine x1_2 (er j (List.mem_of_getElem? e1) p e2) fun v h1 h2 => ?_
      refine ⟨v,?_,h2⟩
      unfold blkSt
      rw [List.getElem?_append_right (by simpa using hi),List.length_replicate,List.getElem?_map,e1]
      show some ((σ[j]?).getD none)=some (some v)
      rw [h1]
      rfl
  · rcases key i _ e with z | ⟨j,p',e1,hi,e2,z⟩ <;> cases z
  · rcases key i _ e with z | ⟨j',p',e1,hi,e2,z⟩ <;> cases z
theorem noOw_set {γ:PEnv} {i:Nat} {p:PV} (h:∀ (j:Nat) xs,γ[j]?≠some (.ow xs)):∀ (j:Nat) xs,(γ.set i (.fz p))[j]?≠some (.ow xs):=fun j xs e=>by
  by_cases z:i=j
  · subst z
    by_cases hi:i < γ.length
    · rw [List.getElem?_set_self hi] at e;cases e
    · rw [List.getElem?_eq_none (by simpa using hi)] at e;cases e
  · rw [List.getElem?_set_ne z] at e;exact h j xs e
theorem noOw_blk {nt:Nat} {caps:List Nat} {γ:PEnv}:∀ (j:Nat) xs,(blkG nt caps γ)[j]?≠some (.ow xs):=fun j xs e=>by
  unfold blkG at e
  by_cases hi:j < nt
  · rw [List.getElem?_append_left (by simpa using hi),List.getElem?_replicate,if_pos hi] at e;cases e
  · rw [List.getElem?_append_right (by simpa using hi),List.length_replicate,List.getElem?_map] at e
    cases q:caps[j - nt]? with
    | none=>rw [q] at e;cases e
    | some k =>
      rw [q] at e
      have e:capS γ k = .ow xs:=Option.some.inj e
      unfold capS at e
      split at e <;> cases e
noncomputable def NoOw (g:PV→PEnv→Option PEnv):Prop:=∀ p γ γ',g p γ=some γ'→(∀ (j:Nat) xs,γ[j]?≠some (.ow xs))→∀ (j:Nat) xs,γ'[j]?≠some (.ow xs)
theorem noOw_gSet (i:Nat):NoOw (gSet i):=fun p γ γ' e h=>by cases e;exact noOw_set h
theorem noOw_gSet2 (i j:Nat):NoOw (gSet2 i j):=fun p γ γ' e h=>by
  unfold gSet2 at e
  split at e
  · cases e;exact noOw_set (noOw_set h)
  · cases e

section
variable {X:Cx} {pins:List (Addr×Obj)} {scope:Scope} {N':List Str} {nt:Nat} {caps:List Nat} {tg iter elt:Expr} {ifs:List Expr} {pos:Pos} {ms ns ls:List Nat} {ts:List Nat}
  {mi:PEnv→Option (List PV)} {g:PV→PEnv→Option PEnv} {t:PEnv→Option Bool} {m:MEx}
theorem compRd_of {K:PySem.W.Frag} {F1 H1:Hp} {J:It} {σ:St} {γ:PEnv} {xs ys:List PV} {Qd:Addr→Hp→Prop} (hts:∀ i∈ts,i < nt) (hno:NoOw g) (h1:Same F1 H1) (er:ERep K F1 σ γ caps) (it:ItRep K J F1 xs) (hl:xs.length≤LIM) (e:compL g t m (blkG nt caps γ) xs=some ys)
    (w:∀ D vs H2 F2,Grow F1 H1 F2 H2→H1 D=none→F2 D=none→H2 D=some (.lst vs)→RepL K F2 ys vs→Qd D H2) :
    CompRd J nt caps (tMG K ts g) (tMT K ns t) (tM K ls m) σ H1 Qd:=by
  intro D hD
  have nF1:F1 D=none:=h1.free hD
  refine ⟨fun i k acc H=>k=xs.length - i∧i≤xs.length∧∃ F ps rest,Grow F1 H1 F H∧F D=none∧H D=some (.lst acc)∧RepL K F ps acc∧compL g t m (blkG nt caps γ) (xs.drop i)=some rest∧ps++rest=ys∧ps.length≤i,
    ⟨xs.length,by simp,Nat.zero_le _,F1,[],ys,.side h1 hD,nF1,upd_same,.nil,by simpa using e,rfl,Nat.le_refl _⟩,?_⟩
  rintro i k acc H ⟨rfl,hi,F,ps,rest,gr,nF,hH,rp,e,ey,hpl⟩
  by_cases hlt:i < xs.length
  · refine .inr ⟨it.go i H hlt (gr.ext.trans gr.sub),fun x H3 y => ?_⟩
    refine xq fun _ kq=>?_
    refine x1_2 (it.yld i H x H3 hlt (gr.ext.trans gr.sub) y) fun p e3 hy => ?_
    refine x1_2 (hy F gr.ext gr.sub) fun F3 g3 r3 => ?_
    apply kq
    have ed:xs.drop i=p :: xs.drop (i + 1):=by
      obtain ⟨q1,q2⟩:=List.getElem?_eq_some_iff.mp e3
      rw [← q2]
      exact List.drop_eq_getElem_cons q1
    rw [ed] at e
    unfold compL at e
    refine xq fun _ kq=>?_
    refine x1_2 (bind_get e) fun γ4 e4 e => ?_
    refine x1_2 (bind_get e) fun b e5 e => ?_
    apply kq
    have g13:=gr.trans g3
    have S3:=blk_sr (nt:=nt) g3.sub (er.mono g13.ext)
    refine ⟨H3,F3,F3,_,p,γ4,S3,r3,e4,fun σ4 S4 l4 k4=>⟨⟨l4,fun n v hv => ?_⟩,?_⟩⟩
    · by_cases hn:n∈ts
      · have hn':=hts n hn
        unfold blkSt at hv
        rw [List.getElem?_append_left (by simpa using hn'),List.getElem?_replicate,if_pos hn'] at hv
        cases hv
      · rw [k4 n hn];exact hv
    · have no4:=hno p _ γ4 e4 noOw_blk
      refine ⟨F3,γ4,b,g3.sub,S4.erep fun j _=>no4 j,e5,fun H5 F5 g5 => ?_⟩
      have nD:∀ {F' H':Hp},Grow F H F' H'→F' D=none:=fun {F' H'} gg=>by
        cases q:F' D with
        | none=>rfl
        | some o =>
          rcases gg.new D o q with z | z
          · rw [nF] at z;cases z
          · rw [hH] at z;cases z
      dsimp only
      cases b with
      | true =>
        rw [if_pos rfl] at e ⊢
        refine xq fun _ kq=>?_
        refine x1_2 (bind_get e) fun yv e6 e => ?_
        refine x1_2 (map_get e) fun rest' e7 e8 => ?_
        apply kq
        refine ⟨F5,γ4,yv,g5.sub,(S4.erep fun j _=>no4 j).mono g5.ext,e6,fun v H6 F6 g6 q6 => ?_⟩
        have gg:=g3.trans (g5.trans g6)
        have hD6:H6 D=some (.lst acc):=gg.same _ _ hH
        have nF6:=nD gg
        refine ⟨hD6,?_,xs.length - (i + 1),by omega,rfl,hlt,F6,ps++[yv],rest',?_,nF6,upd_same,(rp.mono gg.ext).snoc q6,e7,?_,?_⟩
        · rw [rp.length]
          exact Nat.lt_of_lt_of_le (by omega) lim_line
        · have g16:=gr.trans gg
          refine ⟨g16.ext,fun a o q => ?_,fun a o q => ?_,g16.new⟩
          · rw [upd_ne (ne_of_none q nF6)];exact g16.sub a o q
          · rw [upd_ne (ne_of_none q hD)];exact g16.same a o q
        · rw [List.append_assoc,List.singleton_append,e8];exact ey
        · rw [List.length_append,List.length_singleton];omega
      | false =>
        rw [if_neg Bool.false_ne_true] at e ⊢
        have gg:=g3.trans g5
        exact ⟨xs.length - (i + 1),by omega,rfl,hlt,F5,ps,rest,gr.trans gg,nD gg,gg.same _ _ hH,rp.mono gg.ext,e,ey,by omega⟩
  · have e':i=xs.length:=by omega
    subst e'
    rw [List.drop_length] at e
    cases e
    rw [List.append_nil] at ey
    subst ey
    exact .inl ⟨it.stop H (gr.ext.trans gr.sub),w D acc H F gr hD nF hH rp⟩
theorem eo_comp (hc:X.calm=true) (ck:CompOk X.N X.env.scope scope N' nt caps) (hts:∀ i∈ts,i < nt) (hno:NoOw g) (hi:IM X ms tg iter mi)
    (hg:∀ pins cl C s H fp,GM (blkCx X pins N' (relab X.env.scope scope) cl C s H fp) ts tg g)
    (ht:∀ pins cl C s H fp,IfM (blkCx X pins N' (relab X.env.scope scope) cl C s H fp) ns ifs t)
    (he:∀ pins cl C s H fp,EM (blkCx X pins N' (relab X.env.scope scope) cl C s H fp) ls elt m)
    (hs:∀ x,foldedSetIterable iter X.env x=pure x:=by intro _;rfl) (hrel:relabel scope X.env=relab X.env.scope scope:=by rfl) :
    EO X (ms++caps) (.ListComp elt [⟨tg,iter,ifs,0⟩] scope pos) (mComp mi nt caps g t m) :=
  PE.imp (pe_comp (g:=tMG X.K ts g) (tc:=tMT X.K ns t) (te:=tM X.K ls m) hc ck hi hg ht he hs hrel) fun σ H Q hq9=>x3_4 hq9 fun F γ ys h1 h2 h3 w=>by
    refine x1_2 (bind_get h3) fun xs e1 h3 => ?_
    have hl:xs.length≤LIM:=by
      by_cases c:xs.length≤LIM
      · exact c
      · rw [if_neg c] at h3;cases h3
    rw [if_pos hl] at h3
    refine ⟨F,γ,xs,h1,h2.left,e1,fun J H1 F1 g1 it => ?_⟩
    exact compRd_of hts hno g1.sub (h2.right.mono g1.ext) it hl h3 fun D vs H2 F2 g2 n nF hH q=>w D vs H2 F2 (g1.trans g2) (g1.same.free n) nF hH q
theorem sm_setcomp {i:Nat} {y:Str} {py spos:Pos} (hN:X.N.Nodup) (hi':X.N[i]?=some y) (hy:X.env.scope.names.lookup y=some .local) (hc:X.calm=true) (ck:CompOk X.N X.env.scope scope N' nt caps) (hts:∀ i∈ts,i < nt) (hno:NoOw g) (hi:IM X ms tg iter mi)
    (hg:∀ pins cl C s H fp,GM (blkCx X pins N' (relab X.env.scope scope) cl C s H fp) ts tg g)
    (ht:∀ pins cl C s H fp,IfM (blkCx X pins N' (relab X.env.scope scope) cl C s H fp) ns ifs t)
    (he:∀ pins cl C s H fp,EM (blkCx X pins N' (relab X.env.scope scope) cl C s H fp) ls elt m)
    (hsw:swapsWith (.ListComp elt [⟨tg,iter,ifs,0⟩] scope pos) (some (.Name y py)) spos.line X.env=pure true:=by rfl)
    (hs:∀ x,foldedSetIterable iter X.env x=pure x:=by intro _;rfl) (hrel:relabel scope X.env=relab X.env.scope scope:=by rfl) :
    SM X (.Assign [.Name y py] (.ListComp elt [⟨tg,iter,ifs,0⟩] scope pos) spos) (sSetO (ms++caps) i (mComp mi nt caps g t m)) :=
  PS.imp (ps_setcomp (g:=tMG X.K ts g) (tc:=tMT X.K ns t) (te:=tM X.K ls m) hN hi' hy hc ck hi hg ht he hsw hs hrel) fun D σ H hq9=>x5_3 hq9 fun B F₀ F γ o S e ok=>by
    refine x1_2 (map_get e) fun ys h3 e2 => ?_
    subst e2
    refine x1_2 (bind_get h3) fun xs e1 h3 => ?_
    have hl:xs.length≤LIM:=by
      by_cases c:xs.length≤LIM
      · exact c
      · rw [if_neg c] at h3;cases h3
    rw [if_pos hl] at h3
    refine xq fun _ kq=>?_
    refine x1_3 (S.see (ms++caps)) fun F1 S1 x1 er => ?_
    apply kq
    refine ⟨F1,γ,xs,S1.sub,er.left,e1,fun J H1 F2 g1 it => ?_⟩
    refine compRd_of hts hno g1.sub (er.right.mono g1.ext) it hl h3 fun D vs H2 F3 g2 n nF hH q => ?_
    obtain ⟨F4,S4⟩:=S.setNew x1 S1 (g1.trans g2) (g1.same.free n) nF hH q i
    exact ok _ _ F4 S4
end

noncomputable def startG (n:Nat) (ps:List PV):PEnv:=ps.map .fz++List.replicate (n - ps.length) .un
noncomputable def outV:Out→Option PV
  | .nx _=>some .non
  | .rt p=>some p
  | .ro xs=>some (.lst xs)
  | _=>none
noncomputable def outO:Out→Option (List PV)
  | .ro xs=>some xs
  | _=>none
noncomputable def runV (N n:Nat) (m:MSt) (ps:List PV):Option PV:=if ps.length=n then (m (startG N ps)).bind outV else none
noncomputable def runO (N n:Nat) (m:MSt) (ps:List PV):Option (List PV):=if ps.length=n then (m (startG N ps)).bind outO else none
theorem runV_len {N n:Nat} {m:MSt}:∀ ps r,runV N n m ps=some r→ps.length=n:=fun ps r h=>by
  unfold runV at h
  by_cases c:ps.length=n
  · exact c
  · rw [if_neg c] at h;cases h
theorem runO_len {N n:Nat} {m:MSt}:∀ ps r,runO N n m ps=some r→ps.length=n:=fun ps r h=>by
  unfold runO at h
  by_cases c:ps.length=n
  · exact c
  · rw [if_neg c] at h;cases h
theorem start_sr {K:PySem.W.Frag} {F H:Hp} {N:List Str} {ps:List PV} {vs:List V} (h:Same F H) (r:RepL K F ps vs):SR K H F F (start N vs) H (startG N.length ps):=by
  have key:∀ (i:Nat) (t:Slot),(startG N.length ps)[i]?=some t→t = .un∨∃ p,ps[i]?=some p∧t = .fz p:=fun i t e=>by
    unfold startG at e
    by_cases hi:i < ps.length
    · rw [List.getElem?_append_left (by simpa using hi),List.getElem?_map] at e
      cases q:ps[i]? with
      | none=>rw [q] at e;cases e
      | some p=>rw [q] at e;exact .inr ⟨p,rfl,(Option.some.inj e).symm⟩
    · rw [List.getElem?_append_right (by simpa using hi),List.getElem?_replicate] at e
      split at e
      · exact .inl (Option.some.inj e).symm
      · cases e
  refine ⟨h,Same.refl _,Same.refl _,fun a o e => .inl e,?_,fun i p e => ?_,fun i xs e => ?_,fun i j xs ys a _ e => ?_⟩
  · unfold start startG
    rw [List.length_append,List.length_append,List.length_map,List.length_map,List.length_replicate,List.length_replicate,r.length]
  · rcases key i _ e with z | ⟨p',e1,z⟩
    · cases z
    · cases z
      refine x1_2 (r.get e1) fun v h1 h2 => ?_
      refine ⟨v,?_,h2⟩
      unfold start
      have hi:i < vs.length:=(List.getElem?_eq_some_iff.mp h1).1
      rw [List.getElem?_append_left (by simpa using hi),List.getElem?_map,h1]
      rfl
  · rcases key i _ e with z | ⟨p',e1,z⟩ <;> cases z
  · rcases key i _ e with z | ⟨p',e1,z⟩ <;> cases z
section
variable {P:Program} {w:World} {K:PySem.W.Frag} {mg:Str→Option Value} {base:Heap}
theorem fnM {x qual:Str} {st:Stmt} {f:Addr} {fd:FuncData} {N ps:List Str} {k n:Nat} {m:MSt} (Fn:Fun K x qual st f fd) (Sc:FnScope N ps (defScope st)) (hn:ps.length=n)
    (hbody:∀ (cdv:Value) (A:Around) (outer:List Env) (s:Shared) (H:Hp) (E:XK),Room k (A.deeper (envOfC qual (defScope st) s.heap.objs.size f cdv)) →
      SMs (cxOf CX0 P w K mg base N qual (defScope st) f cdv A outer s H E).nox (defBody st) m):FnOk P w K mg base CX0 (k + 1) f fd ps (spM K n (runV N.length n m)):=by
  refine Fn.ok Sc (fun vs H Q E h=>by rw [h.1,hn]) fun cdv A outer s H vs Q E hr h => ?_
  refine ⟨_,hbody cdv A outer s H E hr,?_⟩
  refine xq fun _ kq=>?_
  obtain ⟨hl,F,qs,r,h1,h2,h3,wv⟩:=h
  apply kq
  unfold runV at h3
  have hq:qs.length=n:=by rw [← h2.length];exact hl
  rw [if_pos hq] at h3
  refine x1_2 (bind_get h3) fun o e1 e2 => ?_
  refine ⟨H,F,F,_,o,start_sr h1 h2,e1,?_⟩
  cases o with
  | nx γ=>cases e2;exact fun σ' H' F' S=>wv .non H' F' S.gr rep_non
  | rt p=>cases e2;exact fun v H' F' g q=>wv v H' F' g q
  | ro xs=>cases e2;exact fun a vs H' F' g n nF hH q=>wv.of_lst a vs H' F' g n nF hH q
  | bk γ=>cases e2
  | ct γ=>cases e2
theorem fnO {x qual:Str} {st:Stmt} {f:Addr} {fd:FuncData} {N ps:List Str} {k n:Nat} {m:MSt} (Fn:Fun K x qual st f fd) (Sc:FnScope N ps (defScope st)) (hn:ps.length=n)
    (hbody:∀ (cdv:Value) (A:Around) (outer:List Env) (s:Shared) (H:Hp) (E:XK),Room k (A.deeper (envOfC qual (defScope st) s.heap.objs.size f cdv)) →
      SMs (cxOf CX0 P w K mg base N qual (defScope st) f cdv A outer s H E).nox (defBody st) m):FnOk P w K mg base CX0 (k + 1) f fd ps (spO K n (runO N.length n m)):=by
  refine Fn.ok Sc (fun vs H Q E h=>by rw [h.1,hn]) fun cdv A outer s H vs Q E hr h => ?_
  refine ⟨_,hbody cdv A outer s H E hr,?_⟩
  refine xq fun _ kq=>?_
  obtain ⟨hl,F,qs,r,h1,h2,h3,wv⟩:=h
  apply kq
  unfold runO at h3
  have hq:qs.length=n:=by rw [← h2.length];exact hl
  rw [if_pos hq] at h3
  refine x1_2 (bind_get h3) fun o e1 e2 => ?_
  refine ⟨H,F,F,_,o,start_sr h1 h2,e1,?_⟩
  cases o with
  | ro xs=>cases e2;exact fun a vs H' F' g n nF hH q=>wv a vs H' F' g n nF hH q
  | nx γ=>cases e2
  | rt p=>cases e2
  | bk γ=>cases e2
  | ct γ=>cases e2
theorem _root_.L2.FnOk.sw {k n:Nat} {f:Addr} {fd:FuncData} {ps:List Str} {g g':List PV→Option PV} (F:FnOk P w K mg base CX0 k f fd ps (spM K n g)) (h:∀ qs r,g' qs=some r→g qs=some r):FnOk P w K mg base CX0 k f fd ps (spM K n g') :=
  F.imp fun vs H Q E ⟨hl,F,qs,r,h1,h2,h3,wv⟩=>⟨hl,F,qs,r,h1,h2,h qs r h3,wv⟩
end
end L2.PM

set_option Elab.async false
set_option linter.all false
set_option maxRecDepth 100000
noncomputable section
namespace L2.PM
open PySem PySem.Spec PyProof.Rows

section
variable {X:Cx} {e a b c:Expr} {es:List Expr} {ms ns ls:List Nat} {m m1 m2 m3:MEx} {pos p p2 p3:Pos} {x:Str} {id T:String}

noncomputable def tyName:PV→String
  | .non => "NoneType"
  | .bl _ => "bool"
  | .int _ => "int"
  | .str _ => "str"
  | .tup _ => "tuple"
  | .lst _ => "list"
  | .obj _ _ _ => "object"
  | .opq _ => "object"
noncomputable def isO:PV→Bool
  | .obj _ _ _=>true
  | .opq _=>true
  | _=>false
noncomputable def isInt:PV→Bool
  | .int _=>true
  | .bl _=>true
  | _=>false
noncomputable def isBl:PV→Bool
  | .bl _=>true
  | _=>false
noncomputable def isStr:PV→Bool
  | .str _=>true
  | _=>false
noncomputable def isTup:PV→Bool
  | .tup _=>true
  | _=>false
noncomputable def isLst:PV→Bool
  | .lst _=>true
  | _=>false
noncomputable def Isi (T:String) (f:PV→Bool):Prop:=∀ (p:PV) (K:PySem.W.Frag),isO p=false→PySem.W.kitOne K (.type (tyName p)) (.type T)=some (f p)
theorem isi_int:Isi "int" isInt:=fun p K ho=>by cases p <;> first | (cases ho;done) | kernel_rfl
theorem isi_bl:Isi "bool" isBl:=fun p K ho=>by cases p <;> first | (cases ho;done) | kernel_rfl
theorem isi_tup:Isi "tuple" isTup:=fun p K ho=>by cases p <;> first | (cases ho;done) | kernel_rfl
theorem isinst_rep {pins:List (Addr×Obj)} {σ:St} {H F:Hp} {s:Shared} {A:Around} {E:Value→Shared→Prop} {Q:Value→Shared→Prop} {v:V} {u:Value} {q:PV} {f:PV→Bool} (I:Inv X pins σ H s) (hF:Same F H) (hi:Isi T f) (r:Rep X.K F q v) (rv:RelV v u)
    (ho:isO q=false) (h:∀ tk,Q (.bool (f q)) { s with toks:=tk }):wpAny (model X.prog X.w) A (call (.builtin "isinstance") [u,.type T]) Q E s:=by
  have e:=hi q X.K ho
  cases q with
  | non=>unfold Rep at r;subst r;cases rv;exact PySem.W.kia_one PySem.W.kitx_none I.kIn True.intro e (fun z=>nomatch z) h
  | bl y=>unfold Rep at r;subst r;cases rv;exact PySem.W.kia_one PySem.W.kitx_bool I.kIn True.intro e (fun z=>nomatch z) h
  | int y=>unfold Rep at r;subst r;obtain ⟨t,rfl⟩:=rv;exact PySem.W.kia_one PySem.W.kitx_int I.kIn True.intro e (fun z=>nomatch z) h
  | str y=>unfold Rep at r;subst r;obtain ⟨t,rfl⟩:=rv;exact PySem.W.kia_one PySem.W.kitx_str I.kIn True.intro e (fun z=>nomatch z) h
  | tup ys =>
    unfold Rep at r
    refine xq fun _ kq=>?_
    refine x2_3 (r) fun a vs zq1 k2 _ => ?_
    obtain rfl:=zq1
    apply kq
    cases rv
    refine xq fun _ kq=>?_
    refine x1_3 (I.tuple (hF.seqT k2)) fun its _ zq1 _ => ?_
    obtain ⟨o,ho,hc,_⟩:=zq1
    apply kq
    exact PySem.W.kia_one PySem.W.kitx_tuple I.kIn ⟨o,ho,hc⟩ e (fun z=>nomatch z) h
  | lst ys =>
    unfold Rep at r
    refine xq fun _ kq=>?_
    refine x2_3 (r) fun a vs zq1 k2 _ => ?_
    obtain rfl:=zq1
    apply kq
    cases rv
    refine xq fun _ kq=>?_
    refine x1_3 (I.list (hF.seq k2)) fun its _ zq1 _ => ?_
    obtain ⟨o,n,ho,hc,_⟩:=zq1
    apply kq
    exact PySem.W.kia_one PySem.W.kitx_list I.kIn ⟨o,ho,hc⟩ e (fun z=>nomatch z) h
  | obj=>cases ho
  | opq=>cases ho
theorem call_isinst {f:PV→Bool} (hi:Isi T f):CallR X (.builtin "isinstance") (fun vs H Q=>∃ F v q,vs=[v,.ty T]∧Same F H∧Rep X.K F q v∧isO q=false∧Q (.bl (f q)) H):=by
  intro pins s σ H vs us Q I rs h
  refine xq fun _ kq=>?_
  refine x3_5 (h) fun F v q zq1 h1 h2 ho h3 => ?_
  obtain rfl:=zq1
  refine x2_3 (vals2 rs) fun u w zq1 ru rw' => ?_
  obtain rfl:=zq1
  obtain rfl:w=Value.type T:=rw'
  apply kq
  exact isinst_rep I h1 hi h2 ru ho fun tk=>⟨.bl (f q),H,I.tok tk,rfl,h3⟩
noncomputable def isiK (f:PV→Bool) (q:PV):Option PV:=if isO q=false then some (.bl (f q)) else none
noncomputable def mIsi (f:PV→Bool) (m:MEx):MEx:=fun γ=>(m γ).bind (isiK f)
theorem em_isinst {f:PV→Bool} (hi:Isi T f) (h:EM X ms e m) (hg:Gl X "isinstance") (hm:X.mg "isinstance"=none) (hgT:Gl X x) (hmT:X.mg x=none) (hvT:bootBuiltins x=some (.type T))
    (hn:x ≠ "__name__":=by decide) (hdb:(x==("__debug__":Str))=false:=by decide)
    (hs1:starEach (e :: [.Name x p3]) X.env=(false,eval e X.env) :: starEach [.Name x p3] X.env:=by rfl) (hs2:starEach [.Name x p3] X.env=(false,eval (.Name x p3) X.env) :: starEach [] X.env:=by rfl) (hpl:(backTo pos (starEach [.Name x p3] X.env)).any (·.1)=false:=by rfl) :
    EM X ms (.Call (.Name "isinstance" p2) [e,.Name x p3] [] pos) (mIsi f m) :=
  PE.imp (pe_callB (call_isinst hi) hg hm (by kernel_rfl) (pa_cons h (pa_cons (pe_bltn (v := .ty T) hgT hmT hvT rfl hn hdb) pa_nil hs2) hs1) (by decide) (by decide) hs1 hpl) fun σ H Q hq9=>x3_4 hq9 fun F γ r k1 k2 k3 w=>by
    refine xq fun _ kq=>?_
    refine x1_2 (bind_get k3) fun q e1 e2 => ?_
    obtain ⟨ho,e2⟩:=ite_get (show (if isO q=false then some (PV.bl (f q)) else none)=some r from e2)
    apply kq
    subst e2
    exact ⟨F,γ,q,k1,k2,e1,fun v H1 F1 g1 q1=>⟨F1,v,q,rfl,g1.sub,q1,ho,(w.go g1).here g1.sub (rep_bl _)⟩⟩

noncomputable def pLen:List PV→Option PV
  | [.lst xs]=>some (.int xs.length)
  | [.tup xs]=>some (.int xs.length)
  | [.str z]=>if z.length≤LIM then some (.int z.length) else none
  | _=>none
theorem cm_len:CallM X (.builtin "len") pLen:=by
  intro pins s σ H vs us Q I rs h
  refine xq fun _ kq=>?_
  obtain ⟨F,ps,r,h1,h2,h3,w⟩:=h
  apply kq
  refine call_len pins s σ H vs us Q I rs ?_
  unfold pLen at h3
  split at h3
  · cases h3
    unfold RepL at h2
    refine xq fun _ kq=>?_
    obtain ⟨v,t,rfl,h2,ht⟩:=h2
    apply kq
    unfold RepL at ht
    subst ht
    unfold Rep at h2
    refine xq fun _ kq=>?_
    obtain ⟨a,us,rfl,k2,k3⟩:=h2
    apply kq
    exact ⟨.ref a,_,rfl,.inl ⟨us,h1.seq k2,k3.length.symm⟩,w.here h1 (rep_int _)⟩
  · cases h3
    unfold RepL at h2
    refine xq fun _ kq=>?_
    obtain ⟨v,t,rfl,h2,ht⟩:=h2
    apply kq
    unfold RepL at ht
    subst ht
    unfold Rep at h2
    refine xq fun _ kq=>?_
    obtain ⟨a,us,rfl,k2,k3⟩:=h2
    apply kq
    exact ⟨.ref a,_,rfl,.inr ⟨us,h1.seqT k2,k3.length.symm⟩,w.here h1 (rep_int _)⟩
  · rename_i z
    obtain ⟨c,rfl⟩:=ite_get h3
    unfold RepL at h2
    refine xq fun _ kq=>?_
    obtain ⟨v,t,rfl,h2,ht⟩:=h2
    apply kq
    unfold RepL at ht
    subst ht
    unfold Rep at h2
    subst h2
    exact ⟨.str z,_,rfl,⟨Nat.le_trans c lim_line,rfl⟩,w.here h1 (rep_int _)⟩
  · cases h3
noncomputable def pItems:List PV→Option (List PV)
  | [.lst xs]=>some xs
  | [.tup xs]=>some xs
  | _=>none
noncomputable def pTuple:List PV→Option PV
  | [.lst xs]=>some (.tup xs)
  | [.tup xs]=>some (.tup xs)
  | _=>none
theorem cm_tuple:CallM X (.type "tuple") pTuple:=by
  intro pins s σ H vs us Q I rs h
  refine xq fun _ kq=>?_
  obtain ⟨F,ps,r,h1,h2,h3,w⟩:=h
  apply kq
  refine call_tuple_of pins s σ H vs us Q I rs ?_
  unfold pTuple at h3
  split at h3
  · cases h3
    unfold RepL at h2
    refine xq fun _ kq=>?_
    obtain ⟨v,t,rfl,h2,ht⟩:=h2
    apply kq
    unfold RepL at ht
    subst ht
    unfold Rep at h2
    refine xq fun _ kq=>?_
    obtain ⟨a,us,rfl,k2,k3⟩:=h2
    apply kq
    refine ⟨a,us,rfl,.inl ⟨h1.seq k2,fun l hl=>w _ _ _ (.laid h1 hl) ?_⟩⟩
    unfold Rep
    exact ⟨l,us,rfl,.of upd_same,k3.mono (Grow.laid h1 hl).ext⟩
  · cases h3
    unfold RepL at h2
    refine xq fun _ kq=>?_
    obtain ⟨v,t,rfl,h2,ht⟩:=h2
    apply kq
    unfold RepL at ht
    subst ht
    obtain ⟨a,us,rfl,k2,k3⟩:=(by unfold Rep at h2;exact h2:∃ a us,v = .ref a∧SqT X.K F a us∧RepL X.K F _ us)
    exact ⟨a,us,rfl,.inr ⟨h1.seqT k2,w.here h1 h2⟩⟩
  · cases h3
noncomputable def pMax:List PV→Option PV
  | [.int i,.int j]=>some (.int (if j > i then j else i))
  | _=>none
noncomputable def pMin:List PV→Option PV
  | [.int i,.int j]=>some (.int (if j < i then j else i))
  | _=>none
end
end L2.PM

set_option Elab.async false
set_option linter.all false
set_option maxRecDepth 100000
noncomputable section
namespace L2.PM
open PySem PySem.Spec PyProof.Rows

noncomputable def ints?:List PV→Option (List Int)
  | []=>some []
  | .int i :: xs=>(ints? xs).map (i :: ·)
  | _ :: _=>none
noncomputable def strs?:List PV→Option (List Str)
  | []=>some []
  | .str i :: xs=>(strs? xs).map (i :: ·)
  | _ :: _=>none
theorem ints?_map (ns:List Int):ints? (ns.map .int)=some ns:=by
  induction ns with
  | nil=>rfl
  | cons n ns ih=>simp [ints?,ih]
theorem ints?_get:∀ {xs:List PV} {ns:List Int},ints? xs=some ns→xs=ns.map .int
  | [],ns,h=>by cases h;rfl
  | x :: xs,ns,h=>by
    cases x with
    | int i =>
      unfold ints? at h
      cases e:ints? xs with
      | none=>rw [e] at h;cases h
      | some ms=>rw [e] at h;cases h;rw [ints?_get e];rfl
    | _=>cases h
theorem repL_ints {K:PySem.W.Frag} {F:Hp}:∀ {ns:List Int} {vs:List V},RepL K F (ns.map .int) vs→vs=ns.map V.int
  | [],vs,h=>by rw [List.map_nil] at h;unfold RepL at h;exact h
  | n :: ns,vs,h=>by
    rw [List.map_cons] at h
    unfold RepL at h
    refine xq fun _ kq=>?_
    refine x2_3 (h) fun v r zq1 h2 h3 => ?_
    obtain rfl:=zq1
    apply kq
    unfold Rep at h2
    rw [h2,repL_ints h3]
    rfl
theorem repL_ints' {K:PySem.W.Frag} {F:Hp}:∀ (ns:List Int),RepL K F (ns.map .int) (ns.map V.int)
  | [] => .nil
  | n :: ns => .cons (rep_int n) (repL_ints' ns)
section
variable {X:Cx} {e a b c:Expr} {es:List Expr} {ms ns ls:List Nat} {m m1 m2 m3:MEx} {pos p p2 p3:Pos} {x:Str} {id T:String}
noncomputable def pSum:List PV→Option PV
  | [.lst xs]=>(ints? xs).map fun ns => .int ns.sum
  | _=>none
theorem intItems_of:∀ {ns:List Int} {us:List Value},IntsAre us ns→∃ xs:Array (Int×Tok),us.toArray=intItems xs∧xs.toList.map (·.1)=ns
  | _,_,.nil=>⟨#[],by simp [intItems],rfl⟩
  | _,_,.cons n t h=>by
    refine x1_2 (intItems_of h) fun xs e1 e2 => ?_
    refine ⟨((n,t) :: xs.toList).toArray,?_,by simp [e2]⟩
    have e3:∀ (us:List Value),us.toArray=intItems xs→us=xs.toList.map fun p=>Value.int p.1 p.2:=fun us e=>by
      have:=congrArg Array.toList e
      simpa [intItems] using this
    simp [intItems,e3 _ e1]
theorem preSum_take (val:Nat→Int) (xs:List Int) (h:∀ i,i < xs.length→val i=xs.getD i 0):∀ n,n≤xs.length→preSum val n=(xs.take n).sum
  | 0,_=>by simp [preSum]
  | n + 1,hn=>by
    have hl:n < xs.length:=by omega
    rw [preSum,preSum_take val xs h n (by omega),h n (by omega),List.take_succ,List.sum_append]
    simp [hl]
theorem call_sumI (hc:X.calm=true):CallR X (.builtin "sum") (fun vs H Q=>∃ (a:Addr) (ns:List Int),vs=[.ref a]∧SqL X.K H a (ns.map V.int)∧Q (.int ns.sum) H):=by
  intro pins s σ H vs us Q I rs h
  refine xq fun _ kq=>?_
  refine x2_3 (h) fun a ns zq1 h2 h3 => ?_
  obtain rfl:=zq1
  refine x1_2 (vals1 rs) fun u zq1 ru => ?_
  obtain rfl:=zq1
  apply kq
  cases ru
  refine xq fun _ kq=>?_
  refine x1_3 (I.list h2) fun its r pl _ => ?_
  refine x1_2 (intItems_of (intsAre_of r)) fun xs e1 e2 => ?_
  apply kq
  have hl:=pl.isList
  rw [e1] at hl
  refine sum_intListG (I.ok.hd hc) hl fun h' tk t' hk=>⟨.int ns.sum,H,I.kept (t':=tk) hk,⟨t',?_⟩,h3⟩
  have hlen:ns.length=xs.size:=by rw [← e2];simp
  have e3:=preSum_take (numAt xs) ns (fun i hi=>by
    unfold numAt
    rw [← e2]
    have hi':i < xs.size:=by rw [← hlen];exact hi
    simp [hi']) ns.length (Nat.le_refl _)
  rw [List.take_length] at e3
  rw [← hlen,e3]
theorem cm_sum (hc:X.calm=true):CallM X (.builtin "sum") pSum:=by
  intro pins s σ H vs us Q I rs h
  refine xq fun _ kq=>?_
  obtain ⟨F,ps,r,h1,h2,h3,w⟩:=h
  apply kq
  refine call_sumI hc pins s σ H vs us Q I rs ?_
  unfold pSum at h3
  split at h3
  · rename_i xs
    obtain ⟨ns,e1,rfl⟩:=map_get h3
    have e2:=ints?_get e1
    subst e2
    unfold RepL at h2
    refine xq fun _ kq=>?_
    obtain ⟨v,t,rfl,h2,ht⟩:=h2
    apply kq
    unfold RepL at ht
    subst ht
    unfold Rep at h2
    refine xq fun _ kq=>?_
    obtain ⟨a,us,rfl,k2,k3⟩:=h2
    apply kq
    have e3:=repL_ints k3
    subst e3
    exact ⟨a,ns,rfl,h1.seq k2,w.here h1 (rep_int _)⟩
  · cases h3
noncomputable def isort (ns:List Int):List Int:=ns.mergeSort fun a b=>decide (a≤b)
noncomputable def sLe (a b:Str):Bool := !decide (b.cps.toList < a.cps.toList)
noncomputable def ssort (ns:List Str):List Str:=ns.mergeSort sLe
noncomputable def pSort:List PV→Option (List PV)
  | [.lst xs]=>match ints? xs with
    | some ns=>if ns.length < 64 then some ((isort ns).map .int) else none
    | none=>match strs? xs with
      | some ss=>if ss.length < 64 then some ((ssort ss).map .str) else none
      | none=>none
  | _=>none
noncomputable def rMt (K:PySem.W.Frag) (g:PV→List PV→Option PV):V→List V→Hp→VK→Prop:=fun x vs H Q=>∃ F p ps r,Same F H∧Rep K F p x∧RepL K F ps vs∧g p ps=some r∧Wv K F H r Q
noncomputable def rMtO (K:PySem.W.Frag) (g:PV→List PV→Option (List PV)):V→List V→Hp→VK→Prop:=fun x vs H Q=>∃ F p ps r,Same F H∧Rep K F p x∧RepL K F ps vs∧g p ps=some r∧Wo K F H r Q
noncomputable def tyOk (T:String):PV→Bool
  | .str _=>T == "str"
  | .int _=>T == "int"
  | .lst _=>T == "list"
  | _=>false
noncomputable def mMt (T:String) (g:PV→List PV→Option α) (m:MEx) (ma:PEnv→Option (List PV)):PEnv→Option α:=fun γ=>(m γ).bind fun p=>if tyOk T p=true then (ma γ).bind fun ps=>g p ps else none
theorem tyV_rep {K:PySem.W.Frag} {F H:Hp} {p:PV} {v:V} (h:Same F H) (r:Rep K F p v) (t:tyOk T p=true):tyV K T v H:=by
  cases p with
  | str z=>unfold Rep at r;subst r;exact eq_of_beq t
  | int z=>unfold Rep at r;subst r;exact eq_of_beq t
  | lst xs=>unfold Rep at r;obtain ⟨a,vs,rfl,k2,_⟩:=r;exact .inl ⟨eq_of_beq t,vs,h.seq k2⟩
  | _=>cases t
variable {o:Expr} {ma:PEnv→Option (List PV)}
noncomputable def mMt0 (T:String) (g:PV→List PV→Option α) (m:MEx):PEnv→Option α:=fun γ=>(m γ).bind fun p=>if tyOk T p=true then g p [] else none
theorem em_mt0 {g:PV→List PV→Option PV} (h:EM X ms o m) {name:Str} {apos cpos:Pos}
    (hp:PE X (.Call (.Attribute o name apos) [] [] cpos) (tBM0 X.K T (rMt X.K g) (tM X.K ms m))):EM X ms (.Call (.Attribute o name apos) [] [] cpos) (mMt0 T g m) :=
  PE.imp hp fun σ H Q hq9=>x3_4 hq9 fun F γ r k1 k2 k3 w=>by
    refine x1_2 (bind_get k3) fun p e1 k3 => ?_
    have c:tyOk T p=true:=by
      by_cases c:tyOk T p=true
      · exact c
      · rw [if_neg c] at k3;cases k3
    rw [if_pos c] at k3
    refine ⟨F,γ,p,k1,k2,e1,fun v H1 F1 g1 q1=>⟨tyV_rep g1.sub q1 c,F1,p,[],r,g1.sub,q1,.nil,k3,w.go g1⟩⟩
noncomputable def pBits:PV→List PV→Option PV
  | .int i,[]=>some (.int (Builtin.Int.intBits i))
  | _,_=>none
theorem mm_bits:MtR X "int.bit_length" (rMt X.K pBits):=by
  intro pins s σ H x xs v us Q I rx rs h
  refine xq fun _ kq=>?_
  refine x4_5 (h) fun F p ps r h1 h2 h3 h4 w => ?_
  apply kq
  unfold pBits at h4
  split at h4
  · cases h4
    unfold Rep at h2
    subst h2
    obtain ⟨t,rfl⟩:=rx
    unfold RepL at h3
    subst h3
    cases rs
    exact call_int_bit_length ⟨.int _,H,I.tok _,⟨_,rfl⟩,w.here h1 (rep_int _)⟩
  · cases h4
theorem em_bits {apos cpos:Pos} (h:EM X ms o m) (hbase:attributeBase o "bit_length" X.env (eval o X.env)=eval o X.env:=by rfl) (hline:(apos.endLine==cpos.line)=true:=by rfl):EM X ms (.Call (.Attribute o "bit_length" apos) [] [] cpos) (mMt0 "int" pBits m) :=
  em_mt0 h (pe_bm0 PySem.F.plainAttrs_int slot_int_bit_length type_int_bit_length mm_bits h hbase hline)
noncomputable def pJoin:PV→List PV→Option PV
  | .str x,[.lst xs]=>match strs? xs with
    | some ys=>if (ys.map (·.length)).sum + ys.length * x.length≤LIM then some (.str (Txt.join x ys)) else none
    | none=>none
  | _,_=>none
noncomputable def rSlS:V→Option Int→Option Int→Hp→VK→Prop:=fun x lo hi H Q=>∃ z,x = .str z∧z.length≤sizeLine∧Q (.str (Txt.slice z lo hi)) H
noncomputable def pCutS:PV→Option Int→Option Int→Option PV
  | .str z,lo,hi=>if z.length≤LIM then some (.str (Txt.slice z lo hi)) else none
  | _,_,_=>none
variable {lo hi:Option Expr} {ml mh:PEnv→Option (Option Int)}
end
end L2.PM

set_option Elab.async false
set_option linter.all false
set_option maxRecDepth 100000
noncomputable section
namespace L2.PM
open PySem PySem.Spec PyProof.Rows

section
variable {X:Cx} {e a b c:Expr} {es:List Expr} {ms ns ls:List Nat} {m m1 m2 m3:MEx} {pos p p1 p2 p3 pos':Pos} {x:Str} {id T:String}
noncomputable def oRng (m:MEx):PEnv→Option (List PV):=fun γ=>(m γ).bind fun q=>match q with
  | .int j=>if rOk j=true∧j.toNat≤LIM then some (rngL 0 j) else none
  | _=>none
end
end L2.PM

set_option Elab.async false
set_option linter.all false
set_option maxRecDepth 100000
noncomputable section
namespace L2.PM
open PySem PySem.Spec PyProof.Rows

noncomputable def compOkB (N:List Str) (osc scope:Scope) (N':List Str) (nt:Nat) (caps:List Nat):Bool :=
  (scope.kind == .function)&&scope.names.all (fun x=>x.2 != NameKind.cell)&&scope.names.all (fun x=>x.2 != NameKind.local||scope.names.lookup x.1==some .local) &&
  scope.names.all (fun x=>x.2 != NameKind.free||(osc.names.lookup x.1==some .cell||osc.names.lookup x.1==some .free))&&(N'.length==nt + caps.length) &&
  (caps.zip (N'.drop nt)).all (fun p=>N[p.1]?==some p.2&&scope.names.lookup p.2==some NameKind.free)
theorem compOk_of {N:List Str} {osc scope:Scope} {N':List Str} {nt:Nat} {caps:List Nat} (h:compOkB N osc scope N' nt caps=true):CompOk N osc scope N' nt caps:=by
  unfold compOkB at h
  simp only [Bool.and_eq_true,List.all_eq_true,Bool.or_eq_true,bne_iff_ne,beq_iff_eq,ne_eq] at h
  refine xq fun _ kq=>?_
  obtain ⟨⟨⟨⟨⟨h1,h2⟩,h3⟩,h4⟩,h5⟩,h6⟩:=h
  apply kq
  refine ⟨h1,h2,fun x hx e => ?_,fun x hx e => ?_,h5,h6⟩
  · rcases h3 x hx with z | z
    · exact absurd e z
    · exact z
  · rcases h4 x hx with z | z
    · exact absurd e z
    · exact z
theorem ck_of {X:Cx} {N:List Str} {osc scope:Scope} {N':List Str} {nt:Nat} {caps:List Nat} (h1:X.N=N) (h2:X.env.scope=osc) (h:compOkB N osc scope N' nt caps=true):CompOk X.N X.env.scope scope N' nt caps:=by
  rw [h1,h2];exact compOk_of h
noncomputable def Cal (P:Program) (w:World) (K:PySem.W.Frag) (mg:Str→Option Value) (base:Heap) (k:Nat) (x:Str) (n:Nat) (g:List PV→Option PV):Prop :=
  ∃ f fd ps,FnOk P w K mg base CX0 k f fd ps (spM K n g)∧mg x=some (.ref f)∧PySem.W.keepIn K (.ref f)=true∧Binds K fd ps []
noncomputable def CalO (P:Program) (w:World) (K:PySem.W.Frag) (mg:Str→Option Value) (base:Heap) (k:Nat) (x:Str) (n:Nat) (g:List PV→Option (List PV)):Prop :=
  ∃ f fd ps,FnOk P w K mg base CX0 k f fd ps (spO K n g)∧mg x=some (.ref f)∧PySem.W.keepIn K (.ref f)=true∧Binds K fd ps []
section
variable {X:Cx} {e:Expr} {es:List Expr} {ms:List Nat} {ma:PEnv→Option (List PV)} {x:Str} {p pos:Pos} {k j n:Nat}
theorem em_cal {g:List PV→Option PV} (c:Cal X.prog X.w X.K X.mg X.base k x n g) (hn:∀ ps r,g ps=some r→ps.length=n) (hr:Room k X.A) (hg:Gl X x)
    (ha:AM X ms (e :: es) ma) (hdb:(x==("__debug__":Str))=false:=by decide) (he:starEach (e :: es) X.env=(false,eval e X.env) :: starEach es X.env:=by rfl) (hpl:(backTo pos (starEach es X.env)).any (·.1)=false:=by rfl) :
    EM X ms (.Call (.Name x p) (e :: es) [] pos) (mCall g ma):=by
  refine xq fun _ kq=>?_
  refine x3_4 (c) fun f fd ps F hm hk hb => ?_
  apply kq
  exact em_call F hn hr hg hm hk hb ha hdb he hpl
theorem eo_cal {g:List PV→Option (List PV)} (c:CalO X.prog X.w X.K X.mg X.base k x n g) (hn:∀ ps r,g ps=some r→ps.length=n) (hr:Room k X.A) (hg:Gl X x)
    (ha:AM X ms (e :: es) ma) (hdb:(x==("__debug__":Str))=false:=by decide) (he:starEach (e :: es) X.env=(false,eval e X.env) :: starEach es X.env:=by rfl) (hpl:(backTo pos (starEach es X.env)).any (·.1)=false:=by rfl) :
    EO X ms (.Call (.Name x p) (e :: es) [] pos) (mCall g ma):=by
  refine xq fun _ kq=>?_
  refine x3_4 (c) fun f fd ps F hm hk hb => ?_
  apply kq
  exact eo_call F hn hr hg hm hk hb ha hdb he hpl
theorem am_cons' {m:MEx} (h:EM X ms e m) (hs:starEach [e] X.env=(false,eval e X.env) :: starEach [] X.env:=by rfl):PA X [e] (tMA X.K ms (aCons m aNil)):=by
  have z:=am_cons h am_nil hs
  unfold AM at z
  rw [List.append_nil] at z
  exact z
theorem law_sp {K:PySem.W.Frag} {H:Hp} {a:Addr} {ns:List Int} {g:List PV→Option PV} {E:XK} (h:∀ ns:List Int,ns.length≤63→g [.lst (ns.map .int)]=some (.bl true)) (hl:ns.length≤63) (hS:SqL K H a (ns.map V.int)) :
    spM K 1 g [.ref a] H (fun v _=>v = .bl true) E:=by
  refine ⟨rfl,H,[.lst (ns.map .int)],.bl true,Same.refl _,.cons ?_ .nil,h ns hl,fun v H' F' _ r => ?_⟩
  · unfold Rep
    exact ⟨a,ns.map V.int,rfl,hS,repL_ints' ns⟩
  · unfold Rep at r
    exact r
end
end L2.PM

set_option Elab.async false
set_option linter.all false
set_option maxRecDepth 100000
noncomputable section
namespace L2.PM
open PySem PySem.Spec PyProof.Rows
noncomputable def pN (n:Nat):PV := .int (n:Int)
noncomputable def mN (n:Nat):MEx:=mC (pN n)
noncomputable def pEnumL:List PV→Option (List PV)
  | [.lst xs]=>some (xs.zipIdx.map fun x => .tup [pN x.2,x.1])
  | _=>none
noncomputable def pEnumT:List PV→Option (List PV)
  | [.tup xs]=>some (xs.zipIdx.map fun x => .tup [pN x.2,x.1])
  | _=>none
noncomputable def iSeq (m:MEx):PEnv→Option (List PV):=fun γ=>(m γ).bind fun p=>match p with
  | .lst xs=>some xs
  | .tup xs=>some xs
  | _=>none
noncomputable def pRev:List PV→Option (List PV)
  | [.lst xs]=>some xs.reverse
  | _=>none
noncomputable def pRevT:List PV→Option PV
  | [.lst xs]=>some (.tup xs.reverse)
  | _=>none
noncomputable def once {α:Type} [BEq α]:List α→List α
  | []=>[]
  | x :: xs=>x :: (once xs).filter fun y => !(y==x)
noncomputable def pSortSet:List PV→Option (List PV)
  | [.lst xs]=>match ints? xs with
    | some ns=>if ns.length < 1000∧(once ns).length < 64 then some ((isort (once ns)).map .int) else none
    | none=>none
  | _=>none
noncomputable def pLenSet:List PV→Option PV
  | [.lst xs]=>match ints? xs with
    | some ns=>if ns.length < 1000 then some (.int (once ns).length) else none
    | none=>none
  | _=>none
end L2.PM

set_option Elab.async false
set_option linter.all false
set_option maxRecDepth 100000
noncomputable section
namespace L2.PM
open PySem PySem.Spec PyProof.Rows
noncomputable def Up (xs:Array Nat):Prop:=xs.toList.Pairwise (· < ·)
noncomputable def Kept (L:Bool) (t:SetTable):Prop:=t.led=L∧Up t.place
end L2.PM

set_option Elab.async false
set_option linter.all false
set_option maxRecDepth 100000
noncomputable section
namespace L2.PM
open PySem PySem.Spec PyProof.Rows
section
variable {prog:Program} {w:World} {A:Around} {E:Value→Shared→Prop} {s:Shared}
noncomputable def SetL (prog:Program) (w:World) (L:Bool) (h:Heap) (a:Addr) (M:List Int):Prop :=
  ∃ o es ep t,h.get? a=some o∧o.ExactSet∧o.data = .set es ep t∧ElemsOf (intKind prog w) es.toList∧(∀ k,k∈M↔∃ e∈es.toList,(intKind prog w).is k e.2=true) ∧
    es.size < scanBound∧t.fits es.size=true∧es.size=M.length∧M.Nodup∧Kept L t
noncomputable def more (M:List Int) (k:Int):List Int:=if k∈M then M else M++[k]
end
end L2.PM

set_option Elab.async false
set_option linter.all false
set_option maxRecDepth 100000
noncomputable section
namespace L2.PM
open PySem PySem.Spec PyProof.Rows
noncomputable def byT (w:World):Bool:=w.params.followText "set-order"
noncomputable def seen (val:Nat→Int) (i:Nat):List Int:=((List.range i).map val).foldl more []
section
variable {prog:Program} {w:World} {A:Around} {E:Value→Shared→Prop} {s:Shared}
end
end L2.PM

set_option Elab.async false
set_option linter.all false
set_option maxRecDepth 100000
noncomputable section
namespace L2.PM
open PySem PySem.Spec PyProof.Rows
section
variable {prog:Program} {w:World} {A:Around} {E:Value→Shared→Prop} {s:Shared}
end
end L2.PM

set_option Elab.async false
set_option linter.all false
set_option maxRecDepth 100000
noncomputable section
namespace L2.PM
open PySem PySem.Spec PyProof.Rows
namespace SF
end SF
section
variable {prog:Program} {w:World} {A:Around} {E:Value→Shared→Prop} {s:Shared}
end
end L2.PM

set_option Elab.async false
set_option linter.all false
set_option maxRecDepth 100000
noncomputable section
namespace L2.PM
open PySem PySem.Spec PyProof.Rows
noncomputable def SIt (h:Heap) (I D:Addr) (first:Value) (i n ep:Nat):Prop:=∃ o,h.get? I=some o∧o.cls = .type "set_iterator"∧o.data = .fields #[first,rawInt i,.ref D,rawInt n,rawInt ep]
noncomputable def SetC (h:Heap) (D:Addr) (es:Array (Int×Value)) (ep:Nat) (t:SetTable):Prop:=∃ o,h.get? D=some o∧o.ExactSet∧o.data = .set es ep t∧t.fits es.size=true
section
variable {prog:Program} {w:World} {A:Around} {E:Value→Shared→Prop} {s:Shared} {I D:Addr} {es:Array (Int×Value)} {ep:Nat} {t:SetTable} {i:Nat}
theorem SIt.typeIs {first:Value} {n:Nat} (x:SIt s.heap I D first i n ep):s.TypeIs (.ref I) "set_iterator":=let ⟨o,ho,hc,_⟩:=x;⟨o,ho,hc⟩
theorem SIt.at {h h':Heap} {first:Value} {n:Nat} (x:SIt h I D first i n ep) (e:∀ o,h.get? I=some o→h'.get? I=some o):SIt h' I D first i n ep:=let ⟨o,ho,r⟩:=x;⟨o,e _ ho,r⟩
theorem field_at {h:Heap} {o:Obj} {vs:Array Value} {j:Nat} {x:Value} (ho:h.get? I=some o) (hd:o.data = .fields vs):∃ o',(h.update I (Obj.mapFields (·.setIfInBounds j x))).get? I=some o'∧o'.cls=o.cls∧o'.data = .fields (vs.setIfInBounds j x) :=
  ⟨_,Heap.get?_update_self _ ho (Obj.isFreed_of_fields (Obj.data_mapFields hd _)),Obj.cls_mapFields ..,Obj.data_mapFields hd _⟩
noncomputable def drawnB (es:Array (Int×Value)) (t:SetTable):Bool := !t.plain&&decide (es.size > 1)
end
end L2.PM

set_option Elab.async false
set_option linter.all false
set_option maxRecDepth 100000
noncomputable section
namespace L2.PM
open PySem PySem.Spec PyProof.Rows
namespace SF
end SF
section
variable {prog:Program} {w:World} {A:Around} {E:Value→Shared→Prop} {s:Shared} {I D:Addr} {es:Array (Int×Value)} {ep:Nat} {t:SetTable}
noncomputable def cur (place:Array Nat):Nat→Nat
  | 0=>0
  | i + 1=>(place[i]?).getD 0 + 1
end
end L2.PM

set_option Elab.async false
set_option linter.all false
set_option maxRecDepth 100000
noncomputable section
namespace L2.PM
open PySem PySem.Spec PyProof.Rows
section
variable {prog:Program} {w:World} {A:Around} {E:Value→Shared→Prop} {s:Shared} {D:Addr} {es:Array (Int×Value)} {ep:Nat} {t:SetTable}
theorem SetC.typeIs (x:SetC s.heap D es ep t):s.TypeIs (.ref D) "set":=let ⟨o,ho,hex,_⟩:=x;⟨o,ho,hex.1⟩
end
end L2.PM

set_option Elab.async false
set_option linter.all false
set_option maxRecDepth 100000
noncomputable section
namespace L2.PM
open PySem PySem.Spec PyProof.Rows
section
variable {prog:Program} {w:World} {A:Around} {E:Value→Shared→Prop} {s:Shared} {D:Addr} {es:Array (Int×Value)} {ep:Nat} {t:SetTable}
end
end L2.PM

set_option Elab.async false
set_option linter.all false
set_option maxRecDepth 100000
noncomputable section
namespace L2.PM
open PySem PySem.Spec PyProof.Rows
section
variable {X:Cx} {e a b c:Expr} {es:List Expr} {ms ns ls:List Nat} {m m1 m2 m3:MEx} {ma:PEnv→Option (List PV)} {pos p p1 p2 p3 pos':Pos} {x:Str} {id T:String}
theorem _root_.L2.Inv.drawn {pins:List (Addr×Obj)} {σ:St} {H:Hp} {s:Shared} (I:Inv X pins σ H s) (d:Drawn):Inv X pins σ H { s with drawn:=d }:=⟨I.ok,I.os,I.bare,I.base,I.loc,I.cell,I.free,I.freeC,I.pin,I.hok,I.len⟩
noncomputable def setAt (X:Cx) (p:Addr) (M:List Int):HO := .ext fun h=>SetL X.prog X.w (!byT X.w) h p M
end
end L2.PM

set_option Elab.async false
set_option linter.all false
set_option maxRecDepth 100000
noncomputable section
namespace L2.PM
open PySem PySem.Spec PyProof.Rows
open PySem.AutoSeq1 (wpAny_loadPart')
section
variable {prog:Program} {w:World} {A:Around} {E:Value→Shared→Prop} {s:Shared}
theorem nextOf_tup {it ax:Addr} {i:Nat} {its:Array Value} {x:Value} {Q:Value→Shared→Prop} (hit:s.heap.IsTupleIter it ax i) (ht:s.heap.IsTuple ax its) (hx:its[i]?=some x)
    (fin:∀ h',h'.IsTupleIter it ax (i + 1)→Heap.SameBut it s.heap h'→Q x { s with heap:=h' }):wpAny (model prog w) A (Builtin.SmallTypes.nextOf (.ref it)) Q E s:=by
  refine xq fun _ kq=>?_
  refine x1_3 (id hit) fun o ho hc hd => ?_
  obtain ⟨ot,hot,_,nt,hdt⟩:=ht
  apply kq
  unfold Builtin.SmallTypes.nextOf
  refine wpAny_bind (wpAny_callSpecial?_slot (name:=Str.ofString "__next__") hit.typeIs PySem.F.slot_tuple_iterator_next (wpAny_call_entry PySem.F.slot_tuple_iterator_next hit.typeIs PySem.F.entry_tuple_iterator_next ?_ (PySem.F.args_tuple_iterator_next_1 _)))
  refine (show wpAny _ _ (field (.ref it) 0 >>= _) _ _ s from wpAny_bind (wpAny_field ho hd (x := .ref ax) rfl ?_))
  refine (show wpAny _ _ (if (Value.ref ax==Value.none)=true then _ else _) _ _ s from ?_)
  rw [if_neg (fun z:(Value.ref ax==Value.none)=true=>Bool.false_ne_true z)]
  refine (show wpAny _ _ (field (.ref it) 1 >>= _) _ _ s from wpAny_bind (wpAny_field ho hd (x := .int i 0) rfl ?_))
  refine (show wpAny _ _ (seqItems? (.ref ax) >>= _) _ _ s from wpAny_bind (wpAny_seqItems hot hdt ?_))
  simp only [Int.toNat_natCast,hx]
  refine xq fun _ kq=>?_
  refine x1_3 (field_at (j:=1) (x:=rawInt ((i:Int) + 1)) ho hd) fun o2 at2 c2 d2 => ?_
  apply kq
  exact wpAny_bind (wpAny_setField ho hd (by simp) (wpAny_pure ⟨x,rfl,wpAny_pure (fin _ ⟨o2,at2,c2.trans hc,by rw [d2];simp [rawInt]⟩ (Heap.SameBut.update ..))⟩))
theorem stopE {h1:Heap} {Q:PySem.Fin→Shared→Prop} (calm:A.handled=none) (fin:∀ h' e,(∀ b o,h1.get? b=some o→h'.get? b=some o)→(∃ o,h'.get? e=some o∧o.cls = .type "StopIteration")→E (.ref e) { s with heap:=h' }) :
    wpAny (model prog w) A.in1 (newExc (.type "StopIteration") [] >>= fun e=>(raiseNew e:Sem PySem.Fin)) Q E { s with heap:=h1 }:=by
  refine wpAny_bind ?_
  simp only [newExc,newTuple]
  refine wpAny_bind (wpAny_newObj_type ?_ (by size_fits))
  refine wpAny_bind (m:=firstArgMember _ _) (wpAny_of_eq (a:=Value.none) (by first | rfl | (simp only [firstArgMember];rfl)) (wpAny_newObj_type ?_ (by size_fits)))
  simp only [raiseNew]
  refine wpAny_bind (wpAny_handled ?_)
  rw [show A.in1.handled=none from calm]
  refine wpAny_bind (wpAny_pure (wpAny_throw ?_))
  exact fin _ _ (fun b o e=>Heap.get?_push_of_some _ (Heap.get?_push_of_some _ e)) ⟨_,Heap.get?_push_size _ rfl,rfl⟩
theorem nextOf_tupEnd {it ax:Addr} {i:Nat} {its:Array Value} {Q:Value→Shared→Prop} (calm:A.handled=none) (hit:s.heap.IsTupleIter it ax i) (ht:s.heap.IsTuple ax its) (hx:its[i]?=none)
    (fin:∀ h' e,Heap.ExtBut it s.heap h'→(∃ o,h'.get? e=some o∧o.cls = .type "StopIteration")→E (.ref e) { s with heap:=h' }):wpAny (model prog w) A (Builtin.SmallTypes.nextOf (.ref it)) Q E s:=by
  refine xq fun _ kq=>?_
  refine x1_3 (id hit) fun o ho hc hd => ?_
  obtain ⟨ot,hot,_,nt,hdt⟩:=ht
  apply kq
  unfold Builtin.SmallTypes.nextOf
  refine wpAny_bind (wpAny_callSpecial?_slot (name:=Str.ofString "__next__") hit.typeIs PySem.F.slot_tuple_iterator_next (wpAny_call_entry PySem.F.slot_tuple_iterator_next hit.typeIs PySem.F.entry_tuple_iterator_next ?_ (PySem.F.args_tuple_iterator_next_1 _)))
  refine (show wpAny _ _ (field (.ref it) 0 >>= _) _ _ s from wpAny_bind (wpAny_field ho hd (x := .ref ax) rfl ?_))
  refine (show wpAny _ _ (if (Value.ref ax==Value.none)=true then _ else _) _ _ s from ?_)
  rw [if_neg (fun z:(Value.ref ax==Value.none)=true=>Bool.false_ne_true z)]
  refine (show wpAny _ _ (field (.ref it) 1 >>= _) _ _ s from wpAny_bind (wpAny_field ho hd (x := .int i 0) rfl ?_))
  refine (show wpAny _ _ (seqItems? (.ref ax) >>= _) _ _ s from wpAny_bind (wpAny_seqItems hot hdt ?_))
  simp only [Int.toNat_natCast,hx]
  refine wpAny_bind (wpAny_rule (wpAny_bind (wpAny_setField ho hd (by simp) ?_)))
  refine (show wpAny _ _ (newExc (.type "StopIteration") [] >>= fun e=>(raiseNew e:Sem PySem.Fin)) _ _ _ from stopE calm fun h' e k z=>fin h' e (fun b o hb q=>k b o ((Heap.get?_update_other _ _ (Ne.symm hb)).trans q)) z)
theorem draws_tup (calm:A.handled=none) (it ax:Addr) (ne:ax≠it) (its:Array Value):Draws prog w A it [it,ax] its.size (fun i v=>its[i]?=some v) (fun i h=>h.IsTupleIter it ax i∧h.IsTuple ax its) where
  live:=fun _ _ st=>let ⟨⟨o,ho,_⟩,_⟩:=st;⟨o,ho⟩
  frame:=fun _ _ _ st k=>⟨st.1.at fun o e=>k it (by simp) o e,st.2.at fun o e=>k ax (by simp) o e⟩
  item:=fun i s Q E hi st fin=>nextOf_tup st.1 st.2 (Array.getElem?_eq_getElem hi) fun h' z sb=>fin _ h' s.toks (Array.getElem?_eq_getElem hi) ⟨z,st.2.at fun o e=>(sb.2 ax ne).trans e⟩ sb
  done:=fun s Q E st fin=>nextOf_tupEnd calm st.1 st.2 (Array.getElem?_eq_none (Nat.le_refl _)) fin
set_option maxHeartbeats 1000000 in
theorem meets_enumT (ax:Addr) (its:Array Value) (n:Nat) (dct:Option Addr) (sl:Array (Option Value)) :
    Meets (Builtin.«enumerate.__new__» ⟨[.type "enumerate",.ref ax],[]⟩) (fun _ R s=>s.heap.get? ax=some { cls := .type "tuple",dict:=dct,data := .seq its n,slots:=sl } ∧
      R (.ok (.ret (.ref (s.heap.push { cls := .type "tuple_iterator",data := .fields #[.ref ax,.int 0 0] }).objs.size)))
        { s with heap:=(s.heap.push { cls := .type "tuple_iterator",data := .fields #[.ref ax,.int 0 0] }).push { cls := .type "enumerate",data := .fields #[.none,.bool false,.ref s.heap.objs.size,rawInt 0,.none,.none] } }) :=
  .of_wp fun prog w A R s h=>by
    refine xq fun _ kq=>?_
    obtain ⟨hp,g,d,tk,os⟩:=s
    obtain ⟨ha,h⟩:=h
    apply kq
    have sub:=sub_enumerate
    have hT:Heap.IsTuple (Shared.heap ⟨hp,g,d,tk,os⟩) ax its:=⟨_,ha,rfl,n,rfl⟩
    wp_walk using wpAny_loadPart' ha
    refine wpAny_stack_any fun st=>wpAny_pure ?_
    split
    · rename_i c _ _ _ _ _
      cases (c==Value.type "enumerate")
      · wp_walk using wpAny_loadPart' ha,wpAny_pyIter_tuple hT
        exact ⟨_,rfl,h⟩
      · wp_walk using wpAny_loadPart' ha,wpAny_pyIter_tuple hT
        exact ⟨_,rfl,h⟩
    · wp_walk using wpAny_loadPart' ha,wpAny_pyIter_tuple hT
      exact ⟨_,rfl,h⟩
theorem call_enumT {ax:Addr} {its:Array Value} {Q:Value→Shared→Prop} (hT:s.heap.IsTuple ax its)
    (fin:∀ h',IsEnum h' (s.heap.objs.size + 1) s.heap.objs.size 0 .none→h'.IsTupleIter s.heap.objs.size ax 0→(∀ b o,s.heap.get? b=some o→h'.get? b=some o)→Q (.ref (s.heap.objs.size + 1)) { s with heap:=h' }) :
    wpAny (model prog w) A (call (.type "enumerate") [.ref ax]) Q E s:=by
  refine xq fun _ kq=>?_
  obtain ⟨⟨c,dct,dt,sl⟩,ha,hc,n,hd⟩:=hT
  obtain rfl:c = .type "tuple":=hc
  obtain rfl:dt = .seq its n:=hd
  apply kq
  refine callType_new PySem.F.called_enumerate (by decide) (PySem.F.typeCall_enumerate_1 _) (PySem.F.newCall_enumerate_1 _) (fun obj=>PySem.F.args_object_init_2 obj _) PySem.F.entry_enumerate_new (meets_enumT ax its n dct sl) ⟨ha,?_⟩
  have z:(s.heap.push { cls := .type "tuple_iterator",data := .fields #[.ref ax,.int 0 0] }).objs.size=s.heap.objs.size + 1:=Heap.size_push ..
  have he:IsEnum ((s.heap.push { cls := .type "tuple_iterator",data := .fields #[.ref ax,.int 0 0] }).push { cls := .type "enumerate",data := .fields #[.none,.bool false,.ref s.heap.objs.size,rawInt 0,.none,.none] }) (s.heap.objs.size + 1) s.heap.objs.size 0 .none:=by
    rw [← z]
    exact Heap.get?_push_size _ rfl
  refine (show _∧_ from ?_)
  rw [z]
  exact ⟨⟨_,he,rfl⟩,fin _ he ⟨_,Heap.get?_push_of_some _ (Heap.get?_push_size _ rfl),rfl,rfl⟩ fun b o q=>Heap.get?_push_of_some _ (Heap.get?_push_of_some _ q)⟩
end
end L2.PM

set_option Elab.async false
set_option linter.all false
set_option maxRecDepth 100000
noncomputable section
namespace L2.PM
open PySem PySem.Spec PyProof.Rows
section
variable {X:Cx} {pins:List (Addr×Obj)} {σ:St} {H:Hp} {s:Shared} {h':Heap}
theorem _root_.L2.Inv.turnsNew {ch:List Addr} {tk:Nat} {T:Addr} {o:HO} (I:Inv X pins σ H s) (hf:∀ b∈ch,FpOk X pins H b) (k:∀ b u,b∉ch→s.heap.get? b=some u→h'.get? b=some u) (hT:s.heap.objs.size≤T)
    (new:ObjOk X.prog X.w (upd H T o) h' T o):Inv X pins σ (upd H T o) { s with heap:=h',toks:=tk }:=by
  have hn:H T=none:=I.hok.fresh hT
  have lt:∀ b u,s.heap.get? b=some u→b≠T:=fun b u e z=>absurd (Nat.lt_of_lt_of_le (Heap.lt_size e) (z ▸ hT)) (Nat.lt_irrefl _)
  have nch:∀ b u,H b=some u→b∉ch:=fun b u e z=>by rw [(hf b z).1] at e;cases e
  refine I.call' (ch:=ch) rfl ⟨fun b u e _ _ hc=>k b u hc e,fun b u e _ _ hc=>⟨u.slots,k b u hc e⟩,fun b u e n _=>by rw [upd_ne (lt b u e)];exact n,fun b u e hc=>⟨u,k b u hc e⟩,fun b xs e=>by rw [upd_ne (ne_of_none e hn)];exact e,
    fun b u v e=>by rw [upd_ne (ne_of_none e hn)];exact e,fun b ps e=>⟨#[],by rw [upd_ne (ne_of_none e hn)];simpa using e⟩⟩ (fun b u e => ?_) I.bare fun b hb => ?_
  · by_cases hb:b=T
    · subst hb
      rw [upd_same] at e
      cases e
      exact new
    · rw [upd_ne hb] at e
      refine (I.hok b u e).stay (fun c v hc q=>k c v ?_ q) (fun c q=>by rw [upd_ne (ne_of_none q hn)];exact q) fun c xs q=>by rw [upd_ne (ne_of_none q hn)];exact q
      rcases hc with z | z
      · rw [z];exact nch b u e
      · exact nch c _ z
  · refine xq fun _ kq=>?_
    refine x0_6 (hf b hb) fun _ f1 _ f3 f4 f5 => ?_
    apply kq
    exact ⟨f3,f1,f4,f5⟩
theorem _root_.L2.Inv.turns {ch:List Addr} {tk:Nat} (I:Inv X pins σ H s) (hf:∀ b∈ch,FpOk X pins H b) (k:∀ b u,b∉ch→s.heap.get? b=some u→h'.get? b=some u):Inv X pins σ H { s with heap:=h',toks:=tk }:=by
  have nch:∀ b u,H b=some u→b∉ch:=fun b u e z=>by rw [(hf b z).1] at e;cases e
  refine I.call' (ch:=ch) rfl ⟨fun b u e _ _ hc=>k b u hc e,fun b u e _ _ hc=>⟨u.slots,k b u hc e⟩,fun b u e n _=>n,fun b u e hc=>⟨u,k b u hc e⟩,fun b xs e=>e,fun b u v e=>e,fun b ps e=>⟨#[],by simpa using e⟩⟩ (fun b u e => ?_) I.bare fun b hb => ?_
  · refine (I.hok b u e).stay (fun c v hc q=>k c v ?_ q) (fun c q=>q) fun c xs q=>q
    rcases hc with z | z
    · rw [z];exact nch b u e
    · exact nch c _ z
  · refine xq fun _ kq=>?_
    refine x0_6 (hf b hb) fun _ f1 _ f3 f4 f5 => ?_
    apply kq
    exact ⟨f3,f1,f4,f5⟩
end
noncomputable def Ite (sq:Hp→List V→Prop):It :=
  ⟨fun i H=>∃ xs x,sq H xs∧xs[i]?=some x,fun i H v H'=>∃ T x,v = .ref T∧H T=none∧H'=upd H T (.tup [.int i,x])∧∀ xs,sq H xs→xs[i]?=some x,fun i H=>∃ xs,sq H xs∧xs.length≤i⟩
theorem turn_enumT {P:Program} {w:World} {K:PySem.W.Frag} {elts:List Expr} {kk:Nat} {pp:Pos} (a it e:Addr) (hne:e≠it):Turn P w K (.Tuple elts kk pp) (Ite fun H xs=>SqT K H a xs) [e,it] e (fun i h=>(∃ old,IsEnum h e it i old)∧h.IsTupleIter it a i) where
  mem:=by simp
  obj:=fun i h st b hb=>by
    refine xq fun _ kq=>?_
    obtain ⟨⟨old,he⟩,o,ho,c,d⟩:=st
    apply kq
    rcases List.mem_cons.mp hb with z | z
    · subst z
      exact ⟨_,he,fun v q=>by
        have q:Data.fields _=Data.cell v:=q
        cases q⟩
    · rw [List.mem_singleton.mp z]
      exact ⟨o,ho,fun v q=>by rw [d] at q;cases q⟩
  keep:=fun i h h' st k=>by
    obtain ⟨⟨old,he⟩,st2⟩:=st
    exact ⟨⟨old,k e (by simp) _ he⟩,st2.at fun o q=>k it (by simp) o q⟩
  item:=by
    intro X hP hw hK hc i pins s σ H E I hf st hg
    subst hP hw hK
    refine xq fun _ kq=>?_
    refine x2_2 (hg) fun xs x hq hx => ?_
    refine x1_3 (I.tuple hq) fun its rv p hz => ?_
    refine x1_2 (rv.get hx) fun u hu ru => ?_
    apply kq
    have hlen:=rv.length
    have hi:i < its.length:=(List.getElem?_eq_some_iff.mp hu).1
    have nai:a≠it:=fun z=>by
      refine xq fun _ kq=>?_
      obtain ⟨⟨oi,hoi,ci,_⟩⟩:=(⟨st.2⟩:Nonempty _)
      refine x1_3 (p) fun oa hoa ca _ => ?_
      apply kq
      rw [z,hoi] at hoa
      cases hoa
      rw [ci] at ca
      exact absurd ca (by decide)
    have nae:e∉[it,a]:=fun z=>by
      rcases List.mem_cons.mp z with z | z
      · exact hne z
      · have z:=List.mem_singleton.mp z
        refine xq fun _ kq=>?_
        obtain ⟨⟨old,he⟩,_⟩:=st
        refine x1_3 (p) fun oa hoa ca _ => ?_
        apply kq
        rw [← z,he] at hoa
        cases hoa
        exact absurd (show Value.type "enumerate"=Value.type "tuple" from ca) (by decide)
    have W:=WalksT.enumerateD (A:=X.A) (draws_tup (prog:=X.prog) (w:=X.w) (A:=X.A.in1) (by have:=I.ok.hd hc;simp [this]) it a nai its.toArray) e hne nae (by simp)
    refine W.item i s _ _ (by simpa using hi) ⟨st.1,st.2,p⟩ fun T vals h1 tk hp hT tup mid k1 => ?_
    refine xq fun _ kq=>?_
    refine x2_2 (hp) fun tt y hy zq1 => ?_
    obtain rfl:=zq1
    apply kq
    have hy:y=u:=by
      rw [List.getElem?_toArray,hu] at hy
      exact (Option.some.inj hy).symm
    subst hy
    have apart:=W.apart i T h1 mid
    refine ⟨_,rfl,W.go elts kk pp i T { s with heap:=h1,toks:=tk } _ _ mid fun h2 st2 k2 => ?_⟩
    have hn:H T=none:=I.hok.fresh hT
    have tup2:h2.IsTuple T #[.int i tt,y]:=tup.at fun o q=>k2 T o apart q
    have I2:Inv X pins σ (upd H T (.tup [.int i,x])) { s with heap:=h2,toks:=tk }:=I.turnsNew (ch:=[e,it]) (o := .tup [.int i,x]) hf (fun b o hb q=>k2 b o hb (k1 b o hb q)) hT ⟨by show 2≤sizeLine;decide,[.int i tt,y],.cons ⟨tt,rfl⟩ (.cons ru .nil),tup2⟩
    refine ⟨.ref T,_,I2,rfl,⟨T,x,rfl,hn,rfl,fun ys hy=>by rw [I.tuple_inj hy hq];exact hx⟩,⟨st2.1,st2.2.1⟩,fun b hb => ?_⟩
    have hbT:b≠T:=fun z=>apart (z ▸ hb)
    rw [upd_ne hbT]
    exact (hf b hb).1
  done:=by
    intro X hP hw hK hc i pins s σ H E I hf st hg
    subst hP hw hK
    refine xq fun _ kq=>?_
    refine x1_2 (hg) fun xs hq hx => ?_
    refine x1_3 (I.tuple hq) fun its rv p hz => ?_
    have hlen:=rv.length
    obtain ⟨⟨old,he⟩,st2⟩:=st
    apply kq
    have D:Draws X.prog X.w X.A.in1 it [it,a] i (fun _ _=>True) (fun j h=>j=i∧h.IsTupleIter it a i∧h.IsTuple a its.toArray) :=
      { live:=fun _ _ q=>let ⟨_,⟨o,ho,_⟩,_⟩:=q;⟨o,ho⟩
        frame:=fun _ _ _ q k=>⟨q.1,q.2.1.at fun o z=>k it (by simp) o z,q.2.2.at fun o z=>k a (by simp) o z⟩
        item:=fun j s Q E hj q _=>absurd q.1 (Nat.ne_of_lt hj)
        done:=fun s Q E q fin=>nextOf_tupEnd (by have:=I.ok.hd hc;simp [this]) q.2.1 q.2.2 (by simp;omega) fin }
    exact wpAny_pyNext_enum_endD D he ⟨rfl,st2,p⟩ fun h1 k=>⟨rfl,I.turns (tk:=s.toks) (ch:=[e,it]) hf fun b o hb q=>k b o (fun z=>hb (by simp [z])) q⟩
  self:=fun A i s Q E st h=>wpAny_pyIter_enum st.1.choose_spec h
end L2.PM

set_option Elab.async false
set_option linter.all false
set_option maxRecDepth 100000
noncomputable section
namespace L2.PM
open PySem PySem.Spec PyProof.Rows
section
variable {X:Cx} {e a b c:Expr} {es:List Expr} {ms ns ls:List Nat} {m m1 m2 m3:MEx} {ma:PEnv→Option (List PV)} {pos p p1 p2 p3 pos':Pos} {x:Str} {id T:String} {tg:Expr}
theorem im_seq (h:EM X ms e m):IM X ms tg e (iSeq m):=by
  intro pins s σ H R I q
  refine xq fun _ kq=>?_
  refine x3_4 (q) fun F γ xs h1 h2 h3 w => ?_
  refine x1_2 (bind_get h3) fun p e1 e2 => ?_
  apply kq
  cases p with
  | lst ys =>
    cases e2
    exact im_lst h pins s σ H R I ⟨F,γ,_,h1,h2,by unfold iLst;rw [e1];rfl,w⟩
  | tup ys =>
    cases e2
    exact im_tup h pins s σ H R I ⟨F,γ,_,h1,h2,by unfold iTpl;rw [e1];rfl,w⟩
  | _=>cases e2
theorem pi_enumT {elts:List Expr} {kk:Nat} {pp:Pos} {ta:TA} (hg:Gl X "enumerate") (hm:X.mg "enumerate"=none) (ha:PA X [a] ta) (hs:starEach [a] X.env=[(false,eval a X.env)]:=by rfl) :
    PI X (.Tuple elts kk pp) (.Call (.Name "enumerate" p) [a] [] pos) (fun σ H R=>ta σ H fun vs H1=>∃ l,vs=[.ref l]∧(∃ xs,SqT X.K H1 l xs)∧R (Ite fun H xs=>SqT X.K H l xs) H1):=by
  intro pins s σ H R I h
  refine Call_ (ld_blt I hg hm (show bootBuiltins "enumerate"=some (.type "enumerate") from by kernel_rfl) (PyProof.Rows.callWith_type1 (thn (ha pos pins s σ H _ I h) fun us s1 hq9=>x2_3 hq9 fun vs H1 I1 r1 q1 => ?_) hs rfl))
  refine xq fun _ kq=>?_
  refine x1_3 (q1) fun l zq1 zq2 q => ?_
  obtain rfl:=zq1
  obtain ⟨xs,hq⟩:=zq2
  refine x1_2 (vals1 r1) fun u zq1 ru => ?_
  obtain rfl:=zq1
  apply kq
  cases ru
  refine xq fun _ kq=>?_
  refine x1_3 (I1.tuple hq) fun its rv pt hz => ?_
  apply kq
  refine call_enumT (show s1.heap.IsTuple l its.toArray from pt) fun h' he hit k => ?_
  refine wpAny_pyIter_enum he ?_
  refine ⟨s1.heap.objs.size + 1,[s1.heap.objs.size + 1,s1.heap.objs.size],_,_,H1,rfl,I1.kept (t':=s1.toks) k,turn_enumT l s1.heap.objs.size (s1.heap.objs.size + 1) (Nat.succ_ne_self _),⟨⟨_,he⟩,hit⟩,fun b hb => ?_,q⟩
  have hle:s1.heap.objs.size≤b:=by
    rcases List.mem_cons.mp hb with z | z
    · rw [z];exact Nat.le_succ _
    · rw [List.mem_singleton.mp z];exact Nat.le_refl _
  exact I1.fpOk hle (I1.hok.fresh hle)
theorem im_enumT {elts:List Expr} {kk:Nat} {pp:Pos} (hc:X.calm=true) (hg:Gl X "enumerate") (hm:X.mg "enumerate"=none) (ha:AM X ms [a] ma) (hs:starEach [a] X.env=[(false,eval a X.env)]:=by rfl) :
    IM X ms (.Tuple elts kk pp) (.Call (.Name "enumerate" p) [a] [] pos) (mCall pEnumT ma) :=
  PI.imp (pi_enumT hg hm ha hs) fun σ H R hq9=>x3_4 hq9 fun F γ xs k1 k2 k3 w=>by
    obtain ⟨qs,e1,k3⟩:=bind_get k3
    refine ⟨F,γ,qs,k1,k2,e1,fun vs H1 F1 g1 q1 => ?_⟩
    unfold pEnumT at k3
    split at k3
    · rename_i ys
      cases k3
      unfold RepL at q1
      refine xq fun _ kq=>?_
      obtain ⟨v,t,rfl,q1,qt⟩:=q1
      apply kq
      unfold RepL at qt
      subst qt
      unfold Rep at q1
      refine xq fun _ kq=>?_
      obtain ⟨l,us,rfl,sl,rl⟩:=q1
      apply kq
      refine ⟨l,rfl,⟨us,g1.sub.seqT sl⟩,w _ _ _ g1 ?_⟩
      refine ⟨fun i H2 hi e2 => ?_,fun i H2 v H3 hi e2 y => ?_,fun H2 e2 => ?_⟩
      · have hv:i < us.length:=by
          rw [rl.length]
          simpa using hi
        exact ⟨us,us[i],e2.seqT sl,by simp [hv]⟩
      · refine xq fun _ kq=>?_
        obtain ⟨T,x,rfl,hn,rfl,y⟩:=y
        obtain ⟨p,e3,e4⟩:=rl.back (y us (e2.seqT sl))
        apply kq
        refine ⟨.tup [pN i,p],?_,fun F2 x1 x2 => ?_⟩
        · simp [e3]
        · refine ⟨upd F2 T (.tup [.int i,x]),.laid x2 hn,?_⟩
          unfold Rep
          exact ⟨T,[.int i,x],rfl,.of upd_same,.cons (rep_int _) (.cons (e4.mono (x1.trans (Grow.laid (o := .tup [.int i,x]) x2 hn).ext)) .nil)⟩
      · exact ⟨us,e2.seqT sl,by rw [rl.length];simp⟩
    · cases k3
end
end L2.PM

set_option Elab.async false
set_option linter.all false
set_option maxRecDepth 100000
noncomputable section
namespace L2.PM
open PySem PySem.Spec PyProof.Rows
namespace SF
end SF
section
variable {prog:Program} {w:World} {A:Around} {E:Value→Shared→Prop} {s:Shared}
end
section
variable {X:Cx} {e a b c:Expr} {es:List Expr} {ms ns ls:List Nat} {m m1 m2 m3:MEx} {ma:PEnv→Option (List PV)} {pos p p1 p2 p3 pos':Pos} {x:Str} {id T:String} {tg:Expr}
noncomputable def revAt (X:Cx) (I l:Addr) (n:Nat):HO := .ext fun h=>(I∈X.ex∨X.s₀.heap.objs.size≤I)∧h.IsRevIter I l ((n:Int) - 1)
end
end L2.PM

set_option Elab.async false
set_option linter.all false
set_option maxRecDepth 100000
noncomputable section
namespace L2.PM
open PySem PySem.Spec PyProof.Rows
open PySem.AutoSeq1 (wpAny_loadPart')
section
variable {prog:Program} {w:World} {A:Around} {E:Value→Shared→Prop} {s:Shared}
end
section
variable {X:Cx} {e a b c:Expr} {es:List Expr} {ms ns ls:List Nat} {m m1 m2 m3:MEx} {ma:PEnv→Option (List PV)} {pos p p1 p2 p3 pos':Pos} {x:Str} {id T:String} {tg:Expr}
noncomputable def Itv (K:PySem.W.Frag) (l:Addr) (n:Nat):It :=
  ⟨fun i H=>∃ xs x,SqL K H l xs∧xs.length=n∧xs.reverse[i]?=some x,fun i H x H'=>H'=H∧∀ xs,SqL K H l xs→xs.length=n→xs.reverse[i]?=some x,fun i H=>∃ xs,SqL K H l xs∧xs.length=n∧i=n⟩
end
end L2.PM

set_option Elab.async false
set_option linter.all false
noncomputable section
namespace L2.PM
open PySem
noncomputable def pRevTp:List PV→Option (List PV)
  | [.tup xs]=>some xs.reverse
  | _=>none
noncomputable def extK (ms:List Nat) (i:Nat) (γ:PEnv):PV→Option Slot→Option Out
  | .tup ys,some (.ow xs)=>if xs.length + ys.length < LIM∧(!ms.contains i)=true then some (.nx ((keepE (flat (.tup ys)) ms γ).set i (.ow (xs++ys)))) else none
  | _,_=>none
noncomputable def sExt (ms:List Nat) (i:Nat) (m:MEx):MSt:=fun γ=>(m γ).bind fun r=>extK ms i γ r γ[i]?
noncomputable def cMulB (i j:Int):Bool:=cls (i.natAbs.log2 < 4000∧j.natAbs.log2 < 4000)
noncomputable def pMulB:=iop cMulB fun i j => .int (i * j)
noncomputable def pRep:PV→PV→Option (List PV)
  | .lst a,.int k=>if -1000≤k∧k≤1000∧a.length≤1000 then some (List.replicate k.toNat a).flatten else none
  | _,_=>none
noncomputable def gSet2L (i j:Nat):PV→PEnv→Option PEnv:=fun p γ=>match p with
  | .lst [x,y]=>some ((γ.set i (.fz x)).set j (.fz y))
  | _=>none
noncomputable def pCatT:PV→PV→Option PV
  | .tup a,.tup b=>if a≠[]∧b≠[]∧a.length + b.length≤LIM then some (.tup (a++b)) else none
  | _,_=>none
noncomputable def bls?:List PV→Option (List Bool)
  | []=>some []
  | .bl b :: xs=>(bls? xs).map (b :: ·)
  | _ :: _=>none
theorem bls?_get:∀ {xs:List PV} {bs:List Bool},bls? xs=some bs→xs=bs.map PV.bl
  | [],bs,h=>by cases h;rfl
  | .bl b :: xs,bs,h=>by
    have h:(bls? xs).map (b :: ·)=some bs:=h
    cases e:bls? xs with
    | none=>rw [e] at h;cases h
    | some cs=>rw [e] at h;cases h;rw [bls?_get e];rfl
  | .non :: _,_,h=>by cases h
  | .int _ :: _,_,h=>by cases h
  | .str _ :: _,_,h=>by cases h
  | .tup _ :: _,_,h=>by cases h
  | .lst _ :: _,_,h=>by cases h
theorem bls?_map:∀ bs:List Bool,bls? (bs.map PV.bl)=some bs
  | []=>rfl
  | b :: bs=>by
    show (bls? (bs.map PV.bl)).map (b :: ·)=_
    rw [bls?_map bs];rfl
noncomputable def pAllB:List PV→Option PV
  | [.lst xs]=>(bls? xs).map fun bs => .bl (bs.all id)
  | _=>none
noncomputable def pAnyB:List PV→Option PV
  | [.lst xs]=>(bls? xs).map fun bs => .bl (bs.any id)
  | _=>none
end L2.PM

set_option Elab.async false
set_option linter.all false
set_option maxRecDepth 100000
noncomputable section
namespace L2.PM
open PySem PySem.Spec PyProof.Rows
namespace SF
end SF
section
variable {prog:Program} {w:World} {A:Around} {E:Value→Shared→Prop} {s:Shared}
noncomputable def rvObj (l:Addr) (i:Int):Obj:={ cls := .type "reversed",data := .fields #[.ref l,rawInt i] }
noncomputable def IsRv (h:Heap) (a l:Addr) (i:Int):Prop:=∃ o,h.get? a=some o∧o.cls = .type "reversed"∧o.data = .fields #[.ref l,rawInt i]
theorem IsRv.typeIs {a l:Addr} {i:Int} (x:IsRv s.heap a l i):s.TypeIs (.ref a) "reversed":=let ⟨o,ho,hc,_⟩:=x;⟨o,ho,hc⟩
theorem IsRv.at {h h':Heap} {a l:Addr} {i:Int} (x:IsRv h a l i) (e:∀ o,h.get? a=some o→h'.get? a=some o):IsRv h' a l i:=let ⟨o,ho,r⟩:=x;⟨o,e _ ho,r⟩
end
section
variable {X:Cx} {e a b c:Expr} {es:List Expr} {ms ns ls:List Nat} {m m1 m2 m3:MEx} {ma:PEnv→Option (List PV)} {pos p p1 p2 p3 pos':Pos} {x:Str} {id T:String} {tg:Expr}
noncomputable def Itw (K:PySem.W.Frag) (l:Addr) (n:Nat):It :=
  ⟨fun i H=>∃ xs x,SqT K H l xs∧xs.length=n∧xs.reverse[i]?=some x,fun i H x H'=>H'=H∧∀ xs,SqT K H l xs→xs.length=n→xs.reverse[i]?=some x,fun i H=>∃ xs,SqT K H l xs∧xs.length=n∧i=n⟩
theorem line63 {n:Nat} (h:n≤sizeLine):(n:Int) < 2 ^ 63:=by
  have:sizeLine < 2 ^ 63:=by decide
  omega
end
end L2.PM

set_option Elab.async false
set_option linter.all false
set_option maxRecDepth 100000
noncomputable section
namespace L2.PM
open PySem PySem.Spec PyProof.Rows
open PySem.AutoSeq1 (wpAny_loadPart')
section
variable {X:Cx} {e a b c:Expr} {es:List Expr} {ms ns ls:List Nat} {m m1 m2 m3:MEx} {ma:PEnv→Option (List PV)} {pos p p1 p2 p3 pos':Pos} {x:Str} {id T:String} {tg:Expr}
noncomputable def rExtT (K:PySem.W.Frag):V→List V→Hp→VK→Prop:=fun x vs H Q=>∃ l b xs zs,x = .ref l∧vs=[.ref b]∧H l=some (.lst xs)∧SqT K H b zs∧xs.length + zs.length≤sizeLine∧Q .non (upd H l (.lst (xs++zs)))
end
end L2.PM

set_option Elab.async false
set_option linter.all false
set_option maxRecDepth 100000
noncomputable section
namespace L2.PM
open PySem PySem.Spec PyProof.Rows
section
variable {X:Cx}
theorem vals_bls:∀ {bs:List Bool} {its:List Value},Vals (bs.map V.bl) its→its=bs.map Value.bool
  | [],_,h=>by cases h;rfl
  | b :: bs,_,h=>by
    cases h with
    | cons h1 h2=>rw [vals_bls h2,show _=Value.bool b from h1];rfl
theorem repL_bls {K:PySem.W.Frag} {F:Hp}:∀ {bs:List Bool} {vs:List V},RepL K F (bs.map PV.bl) vs→vs=bs.map V.bl
  | [],vs,h=>by
    rw [List.map_nil] at h
    unfold RepL at h
    exact h
  | b :: bs,vs,h=>by
    rw [List.map_cons] at h
    unfold RepL at h
    refine xq fun _ kq=>?_
    refine x2_3 (h) fun v t zq1 h1 h2 => ?_
    obtain rfl:=zq1
    apply kq
    unfold Rep at h1
    rw [h1,repL_bls h2];rfl
theorem kept_it {s:Shared} {h':Heap} {o:Obj} (hk:∀ b x,b∉[s.heap.objs.size]→(s.heap.push o).get? b=some x→h'.get? b=some x):∀ b x,s.heap.get? b=some x→h'.get? b=some x :=
  fun b x e=>hk b x (fun hm=>by rw [List.mem_singleton.mp hm] at e;exact Nat.lt_irrefl _ (Heap.lt_size e)) (Heap.get?_push_of_some _ e)
theorem rng_all (bs:List Bool):((List.range bs.length).all fun i=>(bs[i]?).getD true)=bs.all id:=by
  rw [Bool.eq_iff_iff,List.all_eq_true,List.all_eq_true]
  constructor
  · intro h x hx
    obtain ⟨i,hi,rfl⟩:=List.mem_iff_getElem.mp hx
    have:=h i (List.mem_range.mpr hi)
    simpa [hi] using this
  · intro h i hi
    have hi:=List.mem_range.mp hi
    simpa [hi] using h bs[i] (List.getElem_mem hi)
theorem call_allB (hc:X.calm=true):CallR X (.builtin "all") (fun vs H Q=>∃ (a:Addr) (bs:List Bool),vs=[.ref a]∧SqL X.K H a (bs.map V.bl)∧Q (.bl (bs.all id)) H):=by
  intro pins s σ H vs us Q I rs h
  refine xq fun _ kq=>?_
  refine x2_3 (h) fun a bs zq1 h2 h3 => ?_
  obtain rfl:=zq1
  refine x1_2 (vals1 rs) fun u zq1 ru => ?_
  obtain rfl:=zq1
  apply kq
  cases ru
  refine xq fun _ kq=>?_
  refine x1_3 (I.list h2) fun its r pl _ => ?_
  apply kq
  have e:=vals_bls r
  subst e
  have hl:=pl.isList
  have hlt:a < s.heap.objs.size:=by obtain ⟨_,e,_⟩:=hl;exact Heap.lt_size e
  refine call_all_walk (wpAny_pyIter_list hl ?_)
  refine ⟨s.heap.objs.size,[s.heap.objs.size,a],[s.heap.objs.size],(bs.map Value.bool).toArray.size,_,_,fun i=>(bs[i]?).getD true,rfl,Walks.list (A:=X.A.in1) (I.ok.hd hc) _ a (Nat.ne_of_lt hlt) (bs.map Value.bool).toArray,
    ⟨⟨_,Heap.get?_push_size _ rfl,rfl,rfl⟩,hl.push _⟩,fun i v s' Q' E' hP hQ => ?_,fun h' tk hk => ?_⟩
  · have hP:(bs.map Value.bool)[i]?=some v:=by simpa using hP
    rw [List.getElem?_map,Option.map_eq_some_iff] at hP
    refine x1_2 (hP) fun b e zq1 => ?_
    obtain rfl:=zq1
    simp only [e,Option.getD_some] at hQ
    exact wpAny_truthy_bool hQ
  · have e:((List.range (bs.map Value.bool).toArray.size).all fun i=>(bs[i]?).getD true)=bs.all id:=by
      rw [List.size_toArray,List.length_map];exact rng_all bs
    rw [e]
    exact ⟨.bl (bs.all id),H,I.kept (t':=tk) (kept_it hk),rfl,h3⟩
theorem cm_all (hc:X.calm=true):CallM X (.builtin "all") pAllB:=by
  intro pins s σ H vs us Q I rs h
  refine xq fun _ kq=>?_
  obtain ⟨F,ps,r,h1,h2,h3,w⟩:=h
  apply kq
  refine call_allB hc pins s σ H vs us Q I rs ?_
  unfold pAllB at h3
  split at h3
  · rename_i xs
    obtain ⟨bs,e1,rfl⟩:=map_get h3
    have e2:=bls?_get e1
    subst e2
    unfold RepL at h2
    refine xq fun _ kq=>?_
    obtain ⟨v,t,rfl,h2,ht⟩:=h2
    apply kq
    unfold RepL at ht
    subst ht
    unfold Rep at h2
    refine xq fun _ kq=>?_
    obtain ⟨a,us,rfl,k2,k3⟩:=h2
    apply kq
    have e3:=repL_bls k3
    subst e3
    exact ⟨a,bs,rfl,h1.seq k2,w.here h1 (rep_bl _)⟩
  · cases h3
end
end L2.PM

set_option Elab.async false
set_option linter.all false
set_option maxRecDepth 100000
noncomputable section
namespace L2.PM
open PySem PySem.Spec PyProof.Rows
section
variable {X:Cx} {pos:Pos}
noncomputable def gLst (K:PySem.W.Frag) (n:Nat) (t:TGs):TG:=fun v σ H Q=>∃ a xs,v = .ref a∧SqL K H a xs∧xs.length=n∧t xs σ H Q
end
end L2.PM

set_option Elab.async false
set_option linter.all false
set_option maxRecDepth 100000
noncomputable section
namespace L2.PM
open PySem PySem.Spec PyProof.Rows
theorem turn_enumL {P:Program} {w:World} {K:PySem.W.Frag} {elts:List Expr} {kk:Nat} {pp:Pos} (a it e:Addr) (hne:e≠it):Turn P w K (.Tuple elts kk pp) (Ite fun H xs=>SqL K H a xs) [e,it] e (fun i h=>(∃ old,IsEnum h e it i old)∧h.IsListIter it a i) where
  mem:=by simp
  obj:=fun i h st b hb=>by
    refine xq fun _ kq=>?_
    obtain ⟨⟨old,he⟩,o,ho,c,d⟩:=st
    apply kq
    rcases List.mem_cons.mp hb with z | z
    · subst z
      exact ⟨_,he,fun v q=>by
        have q:Data.fields _=Data.cell v:=q
        cases q⟩
    · rw [List.mem_singleton.mp z]
      exact ⟨o,ho,fun v q=>by rw [d] at q;cases q⟩
  keep:=fun i h h' st k=>by
    obtain ⟨⟨old,he⟩,st2⟩:=st
    exact ⟨⟨old,k e (by simp) _ he⟩,st2.at fun o q=>k it (by simp) o q⟩
  item:=by
    intro X hP hw hK hc i pins s σ H E I hf st hg
    subst hP hw hK
    refine xq fun _ kq=>?_
    refine x2_2 (hg) fun xs x hq hx => ?_
    refine x1_3 (I.list hq) fun its rv pl hz => ?_
    have p:=pl.isList
    refine x1_2 (rv.get hx) fun u hu ru => ?_
    apply kq
    have hlen:=rv.length
    have hi:i < its.length:=(List.getElem?_eq_some_iff.mp hu).1
    have nai:a≠it:=fun z=>by
      refine xq fun _ kq=>?_
      obtain ⟨⟨oi,hoi,ci,_⟩⟩:=(⟨st.2⟩:Nonempty _)
      refine x1_3 (p) fun oa hoa ca _ => ?_
      apply kq
      rw [z,hoi] at hoa
      cases hoa
      rw [ci] at ca
      exact absurd ca (by decide)
    have nae:e∉[it,a]:=fun z=>by
      rcases List.mem_cons.mp z with z | z
      · exact hne z
      · have z:=List.mem_singleton.mp z
        refine xq fun _ kq=>?_
        obtain ⟨⟨old,he⟩,_⟩:=st
        refine x1_3 (p) fun oa hoa ca _ => ?_
        apply kq
        rw [← z,he] at hoa
        cases hoa
        exact absurd (show Value.type "enumerate"=Value.type "list" from ca) (by decide)
    have W:=WalksT.enumerateD (A:=X.A) (Draws.list (prog:=X.prog) (w:=X.w) (A:=X.A.in1) (by have:=I.ok.hd hc;simp [this]) it a nai its.toArray) e hne nae (by simp)
    refine W.item i s _ _ (by simpa using hi) ⟨st.1,st.2,p⟩ fun T vals h1 tk hp hT tup mid k1 => ?_
    refine xq fun _ kq=>?_
    refine x2_2 (hp) fun tt y hy zq1 => ?_
    obtain rfl:=zq1
    apply kq
    have hy:y=u:=by
      rw [List.getElem?_toArray,hu] at hy
      exact (Option.some.inj hy).symm
    subst hy
    have apart:=W.apart i T h1 mid
    refine ⟨_,rfl,W.go elts kk pp i T { s with heap:=h1,toks:=tk } _ _ mid fun h2 st2 k2 => ?_⟩
    have hn:H T=none:=I.hok.fresh hT
    have tup2:h2.IsTuple T #[.int i tt,y]:=tup.at fun o q=>k2 T o apart q
    have I2:Inv X pins σ (upd H T (.tup [.int i,x])) { s with heap:=h2,toks:=tk }:=I.turnsNew (ch:=[e,it]) (o := .tup [.int i,x]) hf (fun b o hb q=>k2 b o hb (k1 b o hb q)) hT ⟨by show 2≤sizeLine;decide,[.int i tt,y],.cons ⟨tt,rfl⟩ (.cons ru .nil),tup2⟩
    refine ⟨.ref T,_,I2,rfl,⟨T,x,rfl,hn,rfl,fun ys hy=>by rw [I.list_inj hy hq];exact hx⟩,⟨st2.1,st2.2.1⟩,fun b hb => ?_⟩
    have hbT:b≠T:=fun z=>apart (z ▸ hb)
    rw [upd_ne hbT]
    exact (hf b hb).1
  done:=by
    intro X hP hw hK hc i pins s σ H E I hf st hg
    subst hP hw hK
    refine xq fun _ kq=>?_
    refine x1_2 (hg) fun xs hq hx => ?_
    refine x1_3 (I.list hq) fun its rv pl hz => ?_
    have p:=pl.isList
    have hlen:=rv.length
    obtain ⟨⟨old,he⟩,st2⟩:=st
    apply kq
    have D:Draws X.prog X.w X.A.in1 it [it,a] i (fun _ _=>True) (fun j h=>j=i∧h.IsListIter it a i∧h.IsList a its.toArray) :=
      { live:=fun _ _ q=>let ⟨_,⟨o,ho,_⟩,_⟩:=q;⟨o,ho⟩
        frame:=fun _ _ _ q k=>⟨q.1,q.2.1.at fun o z=>k it (by simp) o z,q.2.2.at fun o z=>k a (by simp) o z⟩
        item:=fun j s Q E hj q _=>absurd q.1 (Nat.ne_of_lt hj)
        done:=fun s Q E q fin=>wpAny_nextOf_list_end (by have:=I.ok.hd hc;simp [this]) q.2.1 q.2.2 (by simp;omega) fin }
    exact wpAny_pyNext_enum_endD D he ⟨rfl,st2,p⟩ fun h1 k=>⟨rfl,I.turns (tk:=s.toks) (ch:=[e,it]) hf fun b o hb q=>k b o (fun z=>hb (by simp [z])) q⟩
  self:=fun A i s Q E st h=>wpAny_pyIter_enum st.1.choose_spec h
section
variable {X:Cx} {e a b c:Expr} {es:List Expr} {ms ns ls:List Nat} {m m1 m2 m3:MEx} {ma:PEnv→Option (List PV)} {pos p p1 p2 p3 pos':Pos} {x:Str} {id T:String} {tg:Expr}
theorem star_int {i:Int} {j:Nat} {q:Pos} {es:List Expr} {env:Env}:starEach (.Constant (.int i) j q :: es) env=(false,eval (.Constant (.int i) j q) env) :: starEach es env:=rfl
theorem am_int {i:Int} {j:Nat} {q:Pos} (hr:AM X [] es ma):AM X [] (.Constant (.int i) j q :: es) (aCons (mC (.int i)) ma):=am_cons em_int hr star_int
theorem pi_enumL {elts:List Expr} {kk:Nat} {pp:Pos} {ta:TA} (hg:Gl X "enumerate") (hm:X.mg "enumerate"=none) (ha:PA X [a] ta) (hs:starEach [a] X.env=[(false,eval a X.env)]:=by rfl) :
    PI X (.Tuple elts kk pp) (.Call (.Name "enumerate" p) [a] [] pos) (fun σ H R=>ta σ H fun vs H1=>∃ l,vs=[.ref l]∧(∃ xs,SqL X.K H1 l xs)∧R (Ite fun H xs=>SqL X.K H l xs) H1):=by
  intro pins s σ H R I h
  refine Call_ (ld_blt I hg hm (show bootBuiltins "enumerate"=some (.type "enumerate") from by kernel_rfl) (PyProof.Rows.callWith_type1 (thn (ha pos pins s σ H _ I h) fun us s1 hq9=>x2_3 hq9 fun vs H1 I1 r1 q1 => ?_) hs rfl))
  refine xq fun _ kq=>?_
  refine x1_3 (q1) fun l zq1 zq2 q => ?_
  obtain rfl:=zq1
  obtain ⟨xs,hq⟩:=zq2
  refine x1_2 (vals1 r1) fun u zq1 ru => ?_
  obtain rfl:=zq1
  apply kq
  cases ru
  refine xq fun _ kq=>?_
  refine x1_3 (I1.list hq) fun its rv pl hz => ?_
  apply kq
  refine call_enumerate_list pl.isList fun h' he hit _ k => ?_
  refine wpAny_pyIter_enum he ?_
  refine ⟨s1.heap.objs.size + 1,[s1.heap.objs.size + 1,s1.heap.objs.size],_,_,H1,rfl,I1.kept (t':=s1.toks) k,turn_enumL l s1.heap.objs.size (s1.heap.objs.size + 1) (Nat.succ_ne_self _),⟨⟨_,he⟩,hit⟩,fun b hb => ?_,q⟩
  have hle:s1.heap.objs.size≤b:=by
    rcases List.mem_cons.mp hb with z | z
    · rw [z];exact Nat.le_succ _
    · rw [List.mem_singleton.mp z];exact Nat.le_refl _
  exact I1.fpOk hle (I1.hok.fresh hle)
theorem im_enumL {elts:List Expr} {kk:Nat} {pp:Pos} (hc:X.calm=true) (hg:Gl X "enumerate") (hm:X.mg "enumerate"=none) (ha:AM X ms [a] ma) (hs:starEach [a] X.env=[(false,eval a X.env)]:=by rfl) :
    IM X ms (.Tuple elts kk pp) (.Call (.Name "enumerate" p) [a] [] pos) (mCall pEnumL ma) :=
  PI.imp (pi_enumL hg hm ha hs) fun σ H R hq9=>x3_4 hq9 fun F γ xs k1 k2 k3 w=>by
    obtain ⟨qs,e1,k3⟩:=bind_get k3
    refine ⟨F,γ,qs,k1,k2,e1,fun vs H1 F1 g1 q1 => ?_⟩
    unfold pEnumL at k3
    split at k3
    · rename_i ys
      cases k3
      unfold RepL at q1
      refine xq fun _ kq=>?_
      obtain ⟨v,t,rfl,q1,qt⟩:=q1
      apply kq
      unfold RepL at qt
      subst qt
      unfold Rep at q1
      refine xq fun _ kq=>?_
      obtain ⟨l,us,rfl,sl,rl⟩:=q1
      apply kq
      refine ⟨l,rfl,⟨us,g1.sub.seq sl⟩,w _ _ _ g1 ?_⟩
      refine ⟨fun i H2 hi e2 => ?_,fun i H2 v H3 hi e2 y => ?_,fun H2 e2 => ?_⟩
      · have hv:i < us.length:=by
          rw [rl.length]
          simpa using hi
        exact ⟨us,us[i],e2.seq sl,by simp [hv]⟩
      · refine xq fun _ kq=>?_
        obtain ⟨T,x,rfl,hn,rfl,y⟩:=y
        obtain ⟨p,e3,e4⟩:=rl.back (y us (e2.seq sl))
        apply kq
        refine ⟨.tup [pN i,p],?_,fun F2 x1 x2 => ?_⟩
        · simp [e3]
        · refine ⟨upd F2 T (.tup [.int i,x]),.laid x2 hn,?_⟩
          unfold Rep
          exact ⟨T,[.int i,x],rfl,.of upd_same,.cons (rep_int _) (.cons (e4.mono (x1.trans (Grow.laid (o := .tup [.int i,x]) x2 hn).ext)) .nil)⟩
      · exact ⟨us,e2.seq sl,by rw [rl.length];simp⟩
    · cases k3
end
end L2.PM

set_option Elab.async false
set_option linter.all false
set_option maxRecDepth 100000
noncomputable section
namespace L2.PM
open PySem PySem.Spec PyProof.Rows
section
variable {X:Cx}
end
end L2.PM

set_option Elab.async false
set_option linter.all false
set_option maxRecDepth 100000
noncomputable section
namespace L2.PM
open PySem PySem.Spec PyProof.Rows
section
variable {X:Cx} {pos p:Pos} {x:Str}
noncomputable def GT (K:PySem.W.Frag) (a:Addr) (ts:List Str):Prop:=∃ (o:Obj) (its:Array Value) (n:Nat),K.lookup a=some o∧o.cls = .type "tuple"∧o.data = .seq its n∧its.size≤sizeLine∧Vals (ts.map V.str) its.toList
end
end L2.PM

set_option Elab.async false
set_option linter.all false
set_option maxRecDepth 100000
noncomputable section
namespace L2.PM
open PySem PySem.Spec PyProof.Rows
section
variable {X:Cx}
noncomputable def pLeS:PV→PV→Option PV
  | .str a,.str b=>some (.bl (sLe a b))
  | _,_=>none
end
end L2.PM

set_option Elab.async false
set_option linter.all false
set_option maxRecDepth 100000
noncomputable section
namespace L2.PM
open PySem PySem.Spec PyProof.Rows
noncomputable def Its (x:Str):It:=⟨fun i _=>i < x.cps.size,fun i H v H'=>H'=H∧∃ c,x.cps[i]?=some c∧v = .str ⟨#[c]⟩,fun i _=>x.cps.size≤i⟩
section
variable {X:Cx} {tg e:Expr} {ms:List Nat} {m:MEx}
noncomputable def signsL (x:Str):List PV:=x.cps.toList.map fun c => .str ⟨#[c]⟩
noncomputable def itX:PV→Option (List PV)
  | .str x=>if x.cps.all (· < 128)=true then some (signsL x) else none
  | _=>none
noncomputable def iStr (m:MEx):PEnv→Option (List PV):=fun γ=>(m γ).bind itX
end
end L2.PM

set_option Elab.async false
set_option linter.all false
set_option maxRecDepth 100000
noncomputable section
namespace L2.PM
open PySem PySem.Spec PyProof.Rows PySem.Builtin PySem.Builtin.Str
section
variable {prog:Program} {w:World} {A:Around} {E:Value→Shared→Prop} {s:Shared} {x y:Str} {t u:Tok}
end
section
variable {X:Cx} {o e:Expr} {es:List Expr} {ms ns:List Nat} {m:MEx} {ma:PEnv→Option (List PV)}
noncomputable def pSplit:PV→List PV→Option (List PV)
  | .str x,[.str y]=>if (y.length==0)=false∧x.length + 2≤LIM then some ((Txt.split x y).map .str) else none
  | _,_=>none
end
end L2.PM

set_option Elab.async false
set_option linter.all false
set_option maxRecDepth 100000
noncomputable section
namespace L2.PM
open PySem PySem.Spec PyProof.Rows
section
variable {X:Cx}
noncomputable def rInsert:V→List V→Hp→VK→Prop:=fun x vs H Q=>∃ l xs y i,x = .ref l∧vs=[.int i,y]∧H l=some (.lst xs)∧0≤i∧i≤xs.length∧xs.length < sizeLine∧xs.length≤100000∧Q .non (upd H l (.lst (xs.take i.toNat++y :: xs.drop i.toNat)))
variable {e k:Expr} {ms:List Nat} {m mk:MEx} {p2 pos:Pos}
noncomputable def insK (ms:List Nat) (i:Nat) (γ:PEnv) (xs:List PV) (r:PV):PV→Option Out
  | .int j=>if 0≤j∧j≤xs.length∧xs.length≤1000∧(flat r || !ms.contains i)=true then some (.nx ((keepE (flat r) ms γ).set i (.ow (xs.take j.toNat++r :: xs.drop j.toNat)))) else none
  | _=>none
noncomputable def sIns (ms:List Nat) (i:Nat) (mk m:MEx):MSt:=fun γ=>match γ[i]? with
  | some (.ow xs)=>(mk γ).bind fun j=>(m γ).bind fun r=>insK ms i γ xs r j
  | _=>none
end
end L2.PM

set_option Elab.async false
set_option linter.all false
set_option maxRecDepth 100000
noncomputable section
namespace L2.PM
open PySem PySem.Spec PyProof.Rows
section
variable {X:Cx} {o e:Expr} {es:List Expr} {ms ns:List Nat} {m:MEx} {ma:PEnv→Option (List PV)}
noncomputable def pJoinT:PV→List PV→Option PV
  | .str x,[.tup xs]=>match strs? xs with
    | some ys=>if (ys.map (·.length)).sum + ys.length * x.length≤LIM then some (.str (Txt.join x ys)) else none
    | none=>none
  | _,_=>none
end
end L2.PM

set_option Elab.async false
set_option linter.all false
noncomputable section
namespace L2.PM
open PySem
noncomputable def rngD (hi lo:Int):List PV:=(List.range (hi - lo).toNat).map fun k => .int (hi - (k:Nat))
noncomputable def rg3K:PV→PV→PV→Option (List PV)
  | .int i,.int j,.int k=>if k = -1∧rOk i=true∧rOk j=true then some (rngD i j) else none
  | _,_,_=>none
noncomputable def iRg3 (m1 m2 m3:MEx):PEnv→Option (List PV):=fun γ=>(m1 γ).bind fun p=>(m2 γ).bind fun q=>(m3 γ).bind fun r=>rg3K p q r
noncomputable def pI01:List PV→Option PV
  | [.bl b]=>some (.int (if b=true then 1 else 0))
  | [.int i]=>some (.int i)
  | _=>none
noncomputable def exlK (ms:List Nat) (i:Nat) (γ:PEnv):PV→Option Slot→Option Out
  | .lst ys,some (.ow xs)=>if xs.length + ys.length < LIM∧(!ms.contains i)=true then some (.nx ((keepE (flat (.lst ys)) ms γ).set i (.ow (xs++ys)))) else none
  | _,_=>none
noncomputable def sExl (ms:List Nat) (i:Nat) (m:MEx):MSt:=fun γ=>(m γ).bind fun r=>exlK ms i γ r γ[i]?
noncomputable def pZipTL:List PV→Option (List PV)
  | [.tup xs,.lst ys]=>some (List.zipWith (fun a b => .tup [a,b]) xs ys)
  | _=>none
noncomputable def pLenSetS:List PV→Option PV
  | [.tup xs]=>match strs? xs with
    | some ss=>if ss.length < 1000 then some (.int (once ss).length) else none
    | none=>none
  | _=>none
end L2.PM

set_option Elab.async false
set_option linter.all false
set_option maxRecDepth 100000
noncomputable section
namespace L2.PM
open PySem PySem.Spec PyProof.Rows
noncomputable def Itd (hi:Int) (n:Nat):It:=⟨fun i _=>i < n,fun i H x H'=>H'=H∧x = .int (hi - i),fun i _=>n≤i⟩
section
variable {X:Cx} {e a b c:Expr} {es:List Expr} {ms ns ls:List Nat} {m m1 m2 m3:MEx} {ma:PEnv→Option (List PV)} {pos p p1 p2 p3 pos':Pos} {x:Str} {id T:String} {tg:Expr}
noncomputable def rExtL (K:PySem.W.Frag):V→List V→Hp→VK→Prop:=fun x vs H Q=>∃ l b xs zs,x = .ref l∧vs=[.ref b]∧H l=some (.lst xs)∧SqL K H b zs∧xs.length + zs.length≤sizeLine∧Q .non (upd H l (.lst (xs++zs)))
end
open PySem.AutoSeq1 (wpAny_loadPart')
section
variable {X:Cx} {e a b c:Expr} {es:List Expr} {ms ns ls:List Nat} {m m1 m2 m3:MEx} {ma:PEnv→Option (List PV)} {pos p p1 p2 p3 pos':Pos} {x:Str} {id T:String} {tg:Expr}
end
structure FunD (K:PySem.W.Frag) (x qual:Str) (st:Stmt) (f:Addr) (fd:FuncData) (j:Int):Prop where
  ex:∃ (T:Addr) (oc:Value) (od:Option Addr) (kV doc pm:Value) (an:Option Addr) (cdv ct:Value) (osl:Array (Option Value)),
    fd=PySem.W.fnOf x qual (defArgs st) (defBody st) (defScope st) (.ref T) kV doc pm an cdv ct∧K.lookup f=some ⟨oc,od,.func fd,osl⟩∧PySem.W.codeIn K cdv qual=true ∧
    ∃ (tc:Value) (td:Option Addr) (tk:Tok) (tn:Nat) (ts:Array (Option Value)),K.lookup T=some ⟨tc,td,.seq #[.int j tk] tn,ts⟩
  kp:PySem.W.keepIn K (.ref f)=true
section
variable {P:Program} {w:World} {K:PySem.W.Frag} {mg:Str→Option Value} {base:Heap}
end
noncomputable def CalD (P:Program) (w:World) (K:PySem.W.Frag) (mg:Str→Option Value) (base:Heap) (k:Nat) (x:Str) (n:Nat) (j:Int) (g:List PV→Option PV):Prop :=
  ∃ f fd ps,FnOk P w K mg base CX0 k f fd ps (spM K n g)∧mg x=some (.ref f)∧PySem.W.keepIn K (.ref f)=true∧Binds K fd ps []∧∃ tk:Tok,Binds K fd ps [.int j tk]
section
variable {X:Cx} {e:Expr} {es:List Expr} {ms:List Nat} {ma:PEnv→Option (List PV)} {x:Str} {p pos:Pos} {k n:Nat} {j:Int} {m:MEx}
end
end L2.PM

set_option Elab.async false
set_option linter.all false
set_option maxRecDepth 100000
noncomputable section
namespace L2.PM
open PySem PySem.Spec PyProof.Rows
structure ZA (z TI TO i1 i2:Addr) (f1 f2:List Addr):Prop where
  ti:TI≠z∧TI≠TO∧TI≠i1∧TI≠i2
  to:TO≠z∧TO≠i1∧TO≠i2
  ii:i1≠z∧i2≠z∧i1≠i2
  o1:z∉f1∧TO∉f1∧i2∉f1
  o2:z∉f2∧TO∉f2∧i1∉f2
section
variable {prog:Program} {w:World} {A:Around} {E:Value→Shared→Prop} {s:Shared} {z TI TO i1 i2:Addr} {f1 f2:List Addr} {n1 n2 k1 k2:Nat} {P1 P2:Nat→Value→Prop} {S1 S2:Nat→Heap→Prop}
end
noncomputable abbrev hz1 (h:Heap) (a:Addr):Heap:=h.push { cls := .type "tuple_iterator",data := .fields #[.ref a,.int 0 0] }
noncomputable abbrev hz2 (h:Heap) (a c:Addr):Heap:=(hz1 h a).push { cls := .type "list_iterator",data := .fields #[.ref c,.int 0 0] }
noncomputable abbrev hz3 (h:Heap) (a c:Addr):Heap:=(hz2 h a c).push { cls := .type "tuple",data := .seq #[.ref h.objs.size,.ref (hz1 h a).objs.size] }
noncomputable abbrev hz4 (h:Heap) (a c:Addr):Heap:=(hz3 h a c).push { cls := .type "tuple",data := .seq #[.none,.none] }
noncomputable abbrev hz5 (h:Heap) (a c:Addr):Heap:=(hz4 h a c).push { cls := .type "zip",data := .fields #[.none,.bool false,.bool false,.ref (hz2 h a c).objs.size,.ref (hz3 h a c).objs.size] }
noncomputable def Itz (K:PySem.W.Frag) (a c:Addr):It :=
  ⟨fun i H=>∃ xs ys x y,SqT K H a xs∧SqL K H c ys∧xs[i]?=some x∧ys[i]?=some y,
   fun i H v H'=>∃ T x y,v = .ref T∧H T=none∧H'=upd H T (.tup [x,y])∧(∀ xs,SqT K H a xs→xs[i]?=some x)∧∀ ys,SqL K H c ys→ys[i]?=some y,
   fun i H=>(∃ xs ys,SqT K H a xs∧SqL K H c ys∧xs.length≤i)∨∃ xs ys,SqT K H a xs∧SqL K H c ys∧i < xs.length∧ys.length≤i⟩
section
variable {X:Cx} {e a b c:Expr} {es:List Expr} {ms ns ls:List Nat} {m m1 m2 m3:MEx} {ma:PEnv→Option (List PV)} {pos p p1 p2 p3 pos':Pos} {x:Str} {id T:String} {tg:Expr}
end
end L2.PM

set_option Elab.async false
set_option linter.all false
set_option maxRecDepth 100000
noncomputable section
namespace L2.PM
open PySem PySem.Spec PyProof.Rows
section
variable {prog:Program} {w:World} {A:Around} {E:Value→Shared→Prop} {s:Shared}
noncomputable def SetLS (prog:Program) (w:World) (L:Bool) (h:Heap) (a:Addr) (M:List Str):Prop :=
  ∃ o es ep t,h.get? a=some o∧o.ExactSet∧o.data = .set es ep t∧ElemsOf (strKind prog w) es.toList∧(∀ k,k∈M↔∃ e∈es.toList,(strKind prog w).is k e.2=true) ∧
    es.size < scanBound∧t.fits es.size=true∧es.size=M.length∧M.Nodup∧Kept L t
noncomputable def moreS (M:List Str) (k:Str):List Str:=if k∈M then M else M++[k]
end
end L2.PM

set_option Elab.async false
set_option linter.all false
set_option maxRecDepth 100000
noncomputable section
namespace L2.PM
open PySem PySem.Spec PyProof.Rows
noncomputable def seenS (val:Nat→Str) (i:Nat):List Str:=((List.range i).map val).foldl moreS []
section
variable {prog:Program} {w:World} {A:Around} {E:Value→Shared→Prop} {s:Shared}
noncomputable def StrsA:List Value→List Str→Prop
  | [],[]=>True
  | v :: vs,x :: xs=>(∃ t,v = .str x t)∧StrsA vs xs
  | _,_=>False
end
end L2.PM

set_option Elab.async false
set_option linter.all false
set_option maxRecDepth 100000
noncomputable section
namespace L2.PM
open PySem PySem.Spec PyProof.Rows
section
variable {X:Cx} {e a b c:Expr} {es:List Expr} {ms ns ls:List Nat} {m m1 m2 m3:MEx} {ma:PEnv→Option (List PV)} {pos p p1 p2 p3 pos':Pos} {x:Str} {id T:String}
noncomputable def setAtS (X:Cx) (p:Addr) (M:List Str):HO := .ext fun h=>SetLS X.prog X.w (!byT X.w) h p M
end
end L2.PM

set_option Elab.async false
set_option linter.all false
set_option maxRecDepth 100000
noncomputable section
namespace L2.PM
open PySem PySem.Spec PyProof.Rows
section
variable {X:Cx} {pos p:Pos} {x:Str}
noncomputable def strArgs:List Str→PEnv→Option (List PV)
  | []=>aNil
  | s :: ss=>aCons (mC (.str s)) (strArgs ss)
end
end L2.PM

set_option Elab.async false
set_option linter.all false
set_option maxRecDepth 100000
noncomputable section
namespace L2.PM
open PySem PySem.Spec PyProof.Rows
noncomputable def orH (B E:Hp):Hp:=fun b=>match B b with
  | some o=>some o
  | none=>E b
theorem orH_l {B E:Hp}:Same B (orH B E):=fun b o h=>by unfold orH;rw [h]
theorem orH_r {B E:Hp} {b:Addr} {o:HO} (n:B b=none) (h:E b=some o):orH B E b=some o:=by unfold orH;rw [n];exact h
theorem orH_none {B E:Hp} {b:Addr} (h:orH B E b=none):B b=none∧E b=none:=by
  unfold orH at h
  cases q:B b with
  | none=>rw [q] at h;exact ⟨rfl,h⟩
  | some o=>rw [q] at h;cases h
theorem orH_of {B E:Hp} {b:Addr} (h1:B b=none) (h2:E b=none):orH B E b=none:=by unfold orH;rw [h1];exact h2
theorem orH_get {B E:Hp} {b:Addr} {o:HO} (h:orH B E b=some o):B b=some o∨(B b=none∧E b=some o):=by
  unfold orH at h
  cases q:B b with
  | none=>rw [q] at h;exact .inr ⟨rfl,h⟩
  | some u=>rw [q] at h;exact .inl h
noncomputable def opqAt (γ:PEnv) (j:Nat):Option Addr:=match γ[j]? with
  | some (.fz (.opq a))=>some a
  | _=>none
theorem opqAt_get {γ:PEnv} {j:Nat} {a:Addr} (h:opqAt γ j=some a):γ[j]?=some (.fz (.opq a)):=by
  unfold opqAt at h
  split at h
  · rename_i b q
    cases h
    exact q
  · cases h
section
variable {τ:Type}
structure SX (K:PySem.W.Frag) (P:Hp→Hp→Addr→τ→Prop) (j:Nat) (B F₀ F E:Hp) (a:Addr) (σ:St) (H:Hp) (γ:PEnv) (t:τ):Prop where
  sr:SR K (orH B E) F₀ F σ H γ
  at_:opqAt γ j=some a
  own:P F E a t
  db:∀ b o,E b=some o→B b=none
  df:∀ b o,E b=some o→F b=none
inductive OutX (τ:Type) where
  | nx (γ:PEnv) (t:τ) | rt (p:PV) | ro (xs:List PV) | bk (γ:PEnv) (t:τ) | ct (γ:PEnv) (t:τ)
noncomputable abbrev MX (τ:Type):=PEnv→τ→Option (OutX τ)
noncomputable def OutXOk (K:PySem.W.Frag) (P:Hp→Hp→Addr→τ→Prop) (j:Nat) (B F₀:Hp) (a:Addr) (D:Ends):OutX τ→Prop
  | .nx γ t=>∀ σ H F E,SX K P j B F₀ F E a σ H γ t→D.nx σ H
  | .rt p=>∀ v H F,Grow F₀ B F H→Rep K F p v→D.rt v H
  | .ro xs=>∀ c vs H F,Grow F₀ B F H→B c=none→F c=none→H c=some (.lst vs)→RepL K F xs vs→D.rt (.ref c) H
  | .bk γ t=>∀ σ H F E,SX K P j B F₀ F E a σ H γ t→D.bk σ H
  | .ct γ t=>∀ σ H F E,SX K P j B F₀ F E a σ H γ t→D.ct σ H
noncomputable def tMX (K:PySem.W.Frag) (P:Hp→Hp→Addr→τ→Prop) (j:Nat) (m:MX τ):TS:=fun D σ H=>∃ B F₀ F E a γ t o,SX K P j B F₀ F E a σ H γ t∧m γ t=some o∧OutXOk K P j B F₀ a D o
noncomputable def XM (X:Cx) (P:Hp→Hp→Addr→τ→Prop) (j:Nat) (st:Stmt) (m:MX τ):Prop:=PS X st (tMX X.K P j m)
noncomputable def XMs (X:Cx) (P:Hp→Hp→Addr→τ→Prop) (j:Nat) (sts:List Stmt) (m:MX τ):Prop:=PSs X sts (tMX X.K P j m)
noncomputable def PMono (P:Hp→Hp→Addr→τ→Prop):Prop:=∀ (F F' E:Hp) (a:Addr) (t:τ),Same F F'→P F E a t→P F' E a t
variable {K:PySem.W.Frag} {P:Hp→Hp→Addr→τ→Prop} {j:Nat} {B F₀ F F' E H H':Hp} {a:Addr} {σ σ':St} {γ γ':PEnv} {t:τ}
theorem Grow.offE (g:Grow F₀ (orH B E) F H):Grow F₀ B F H:=⟨g.ext,g.sub,orH_l.trans g.same,fun b o e=>(g.new b o e).imp id fun z=>(orH_none z).1⟩
theorem SX.next (S:SX K P j B F₀ F E a σ H γ t) (mono:PMono P) (S':SR K (orH B E) F₀ F' σ' H' γ') (hj:opqAt γ' j=opqAt γ j) (hF:Same F F'):SX K P j B F₀ F' E a σ' H' γ' t:=by
  refine ⟨S',hj.trans S.at_,mono _ _ _ _ _ hF S.own,S.db,fun b o e => ?_⟩
  cases q:F' b with
  | none=>rfl
  | some u =>
    rcases S'.fb b u q with z | z
    · have:=S.sr.f0 b u z
      rw [S.df b o e] at this;cases this
    · rw [orH_r (S.db b o e) e] at z;cases z
end
end L2.PM

set_option Elab.async false
set_option linter.all false
set_option maxRecDepth 100000
noncomputable section
namespace L2.PM
open PySem PySem.Spec PyProof.Rows
section
variable {τ:Type} {X:Cx} {K:PySem.W.Frag} {P:Hp→Hp→Addr→τ→Prop} {j:Nat} {st:Stmt} {sts:List Stmt} {e c:Expr} {ms:List Nat} {pos p2:Pos}
noncomputable def xLift (j:Nat) (m:MSt):MX τ:=fun γ t=>(m γ).bind fun o=>match o with
  | .nx γ'=>if opqAt γ' j=opqAt γ j then some (.nx γ' t) else none
  | .rt p=>some (.rt p)
  | .ro xs=>some (.ro xs)
  | .bk γ'=>if opqAt γ' j=opqAt γ j then some (.bk γ' t) else none
  | .ct γ'=>if opqAt γ' j=opqAt γ j then some (.ct γ' t) else none
theorem lift_core (mono:PMono P) {m:MSt} {D:Ends} {σ:St} {H:Hp} (h:tMX K P j (xLift j m) D σ H):tMS K m D σ H:=by
  refine xq fun _ kq=>?_
  refine x8_3 (h) fun B F₀ F E a γ t o S e ok => ?_
  refine x1_2 (bind_get e) fun ob e1 e => ?_
  apply kq
  refine ⟨orH B E,F,F,γ,ob,S.sr.up S.sr.f0 (Same.refl _),e1,?_⟩
  cases ob with
  | nx γ' =>
    obtain ⟨c,rfl⟩:=ite_get e
    exact fun σ' H' F' S'=>ok σ' H' F' E (S.next mono (S'.down S.sr.f0 S.sr.fb) c S'.f0)
  | bk γ' =>
    obtain ⟨c,rfl⟩:=ite_get e
    exact fun σ' H' F' S'=>ok σ' H' F' E (S.next mono (S'.down S.sr.f0 S.sr.fb) c S'.f0)
  | ct γ' =>
    obtain ⟨c,rfl⟩:=ite_get e
    exact fun σ' H' F' S'=>ok σ' H' F' E (S.next mono (S'.down S.sr.f0 S.sr.fb) c S'.f0)
  | rt p =>
    cases e
    exact fun v H' F' g r=>ok v H' F' (g.down S.sr.f0 S.sr.fb).offE r
  | ro xs =>
    cases e
    exact fun c vs H' F' g n nF hH r=>ok c vs H' F' (g.down S.sr.f0 S.sr.fb).offE (orH_none n).1 nF hH r
theorem xm_lift (mono:PMono P) {m:MSt} (h:SM X st m):XM X P j st (xLift j m):=PS.imp h fun D σ H q=>lift_core mono q
theorem xs_lift (mono:PMono P) {m:MSt} (h:SMs X sts m):XMs X P j sts (xLift j m):=PSs.imp h fun D σ H q=>lift_core mono q
noncomputable def xSeq (s1 s2:MX τ):MX τ:=fun γ t=>(s1 γ t).bind fun o=>match o with
  | .nx γ' t'=>s2 γ' t'
  | o=>some o
theorem xs_cons {s1 s2:MX τ} (h:XM X P j st s1) (hr:XMs X P j sts s2):XMs X P j (st :: sts) (xSeq s1 s2):=PSs.imp (pss_cons h hr) fun D σ H hq9=>x8_3 hq9 fun B F₀ F E a γ t o S e ok=>by
  refine x1_2 (bind_get e) fun o1 e1 e2 => ?_
  refine ⟨B,F₀,F,E,a,γ,t,o1,S,e1,?_⟩
  cases o1 with
  | nx γ' t'=>exact fun σ' H' F' E' S'=>⟨B,F₀,F',E',a,γ',t',o,S',e2,ok⟩
  | rt p=>cases e2;exact ok
  | ro xs=>cases e2;exact ok
  | bk γ' t'=>cases e2;exact ok
  | ct γ' t'=>cases e2;exact ok
theorem xs_one {s1:MX τ} (h:XM X P j st s1):XMs X P j [st] s1:=pss_one h
noncomputable def xNx:MX τ:=fun γ t=>some (.nx γ t)
theorem xs_nil:XMs X P j [] (xNx:MX τ):=PSs.imp pss_nil fun D σ H hq9=>x8_3 hq9 fun B F₀ F E a γ t o S e ok=>by
  cases e
  exact ok σ H F E S
noncomputable def Reads' (K:PySem.W.Frag) (P:Hp→Hp→Addr→τ→Prop) (rd:τ→Option PV):Prop:=∀ (F E:Hp) (a:Addr) (t:τ) (p:PV),(∀ b o,E b=some o→F b=none)→P F E a t→rd t=some p→Rep K (orH F E) p (.ref a)
theorem SX.see {B F₀ F E H:Hp} {a:Addr} {σ:St} {γ:PEnv} {t:τ} (S:SX K P j B F₀ F E a σ H γ t) {rd:τ→Option PV} (hr:Reads' K P rd) {p:PV} (hp:rd t=some p) (ms:List Nat):∃ F1,Same F1 H∧ERep K F1 σ (γ.set j (.fz p)) ms:=by
  refine xq fun _ kq=>?_
  refine x1_3 (S.sr.see (ms.filter (· != j))) fun F1 S1 x1 er => ?_
  apply kq
  have hE:∀ b o,E b=some o→F1 b=none:=fun b o e=>by
    cases q:F1 b with
    | none=>rfl
    | some u =>
      rcases S1.fb b u q with z | z
      · have:=S.sr.f0 b u z
        rw [S.df b o e] at this;cases this
      · rw [orH_r (S.db b o e) e] at z;cases z
  have hj:=opqAt_get S.at_
  have hjl:j < γ.length:=(List.getElem?_eq_some_iff.mp hj).1
  refine x1_2 (S.sr.fz j _ hj) fun v hv rv => ?_
  unfold Rep at rv
  subst rv
  refine ⟨orH F1 E,fun b o e => ?_,fun i hi q e => ?_⟩
  · rcases orH_get e with z | ⟨z1,z2⟩
    · exact S1.sub b o z
    · exact S.sr.base b o (orH_r (S.db b o z2) z2)
  · by_cases z:j=i
    · subst z
      unfold getV at e
      rw [List.getElem?_set_self hjl] at e
      cases e
      have h0:=hr F E a t p S.df S.own hp
      refine ⟨.ref a,hv,h0.mono fun b o e => ?_⟩
      rcases orH_get e with z | ⟨z1,z2⟩
      · exact orH_l b o (x1 b o z)
      · exact orH_r (hE b o z2) z2
    · unfold getV at e
      rw [List.getElem?_set_ne z] at e
      refine x1_2 (er i (List.mem_filter.mpr ⟨hi,by simpa using fun h=>z h.symm⟩) q e) fun v k1 k2 => ?_
      exact ⟨v,k1,k2.mono orH_l⟩
theorem SX.same {B F₀ F E H H':Hp} {a:Addr} {σ:St} {γ:PEnv} {t:τ} (S:SX K P j B F₀ F E a σ H γ t) (e:Same H H'):SX K P j B F₀ F E a σ H' γ t:=⟨S.sr.same e,S.at_,S.own,S.db,S.df⟩
noncomputable def xIf (j:Nat) (rd:τ→Option PV) (tt:PEnv→Option Bool) (s1 s2:MX τ):MX τ:=fun γ t=>(rd t).bind fun p=>(tt (γ.set j (.fz p))).bind fun k=>if k=true then s1 γ t else s2 γ t
noncomputable def forX (j:Nat) (g:PV→PEnv→Option PEnv) (b:MX τ):List PV→PEnv→τ→Option (OutX τ)
  | [],γ,t=>some (.nx γ t)
  | x :: xs,γ,t=>(g x γ).bind fun γ1=>if opqAt γ1 j=opqAt γ j then (b γ1 t).bind fun o=>match o with
    | .nx γ2 t2=>forX j g b xs γ2 t2
    | .ct γ2 t2=>forX j g b xs γ2 t2
    | .bk γ2 t2=>some (.nx γ2 t2)
    | .rt p=>some (.rt p)
    | .ro ys=>some (.ro ys)
    else none
noncomputable def xForR (j:Nat) (mi:PEnv→Option (List PV)) (g:PV→PEnv→Option PEnv) (b:MX τ):MX τ:=fun γ t=>(mi γ).bind fun xs=>forX j g b xs γ t
theorem forX_core (mono:PMono P) {g:PV→PEnv→Option PEnv} {ts:List Nat} {sb:MX τ} {D:Ends} {B F₀ F E H':Hp} {a:Addr} {J:It} {xs:List PV} {γ1:PEnv} {t:τ} {σ:St} {o:OutX τ} (S1:SX K P j B F₀ F E a σ H' γ1 t) (it:∀ F,ItRep K J F xs) (e2:forX j g sb xs γ1 t=some o) (ok:OutXOk K P j B F₀ a D o) :
    ∃ W:Nat→Nat→St→Hp→Prop,(∃ m,W 0 m σ H')∧∀ i m σ H,W i m σ H →
      (J.stop i H∧D.nx σ H)∨(J.go i H∧∃ N:St→Hp→Prop,(∀ σ' H',N σ' H'→∃ m',m' < m∧W (i + 1) m' σ' H')∧∀ x H',J.yld i H x H'→tMG K ts g x σ H' fun σ2 H2=>tMX K P j sb { D with nx:=N,ct:=N,bk:=D.nx } σ2 H2):=by
  refine ⟨fun i m σ H=>m=xs.length - i∧i≤xs.length∧∃ F E γ t,SX K P j B F₀ F E a σ H γ t∧forX j g sb (xs.drop i) γ t=some o,⟨xs.length,by simp,Nat.zero_le _,F,E,γ1,t,S1,by simpa using e2⟩,?_⟩
  rintro i m σ2 H2 ⟨rfl,hi,F2,E2,γ2,t2,S2,e2⟩
  by_cases hlt:i < xs.length
  · refine .inr ⟨(it F2).go i H2 hlt S2.sr.sub,fun σ H=>∃ F E γ t,SX K P j B F₀ F E a σ H γ t∧forX j g sb (xs.drop (i + 1)) γ t=some o,fun σ' H' q=>⟨xs.length - (i + 1),by omega,rfl,hlt,q⟩,fun x H3 y => ?_⟩
    refine xq fun _ kq=>?_
    refine x1_2 ((it F2).yld i H2 x H3 hlt S2.sr.sub y) fun p e3 hy => ?_
    refine x1_2 (hy F2 (Same.refl _) S2.sr.sub) fun F3 g3 r3 => ?_
    apply kq
    have S3:=S2.sr.grow g3
    have ed:xs.drop i=p :: xs.drop (i + 1):=by
      have q:=(List.getElem?_eq_some_iff.mp e3)
      obtain ⟨q1,q2⟩:=q
      rw [← q2]
      exact List.drop_eq_getElem_cons q1
    rw [ed] at e2
    unfold forX at e2
    refine x1_2 (bind_get e2) fun γ4 e4 e2 => ?_
    obtain ⟨c,e2⟩:opqAt γ4 j=opqAt γ2 j∧((sb γ4 t2).bind fun o=>match o with
        | .nx γ2 t2=>forX j g sb (xs.drop (i + 1)) γ2 t2
        | .ct γ2 t2=>forX j g sb (xs.drop (i + 1)) γ2 t2
        | .bk γ2 t2=>some (OutX.nx γ2 t2)
        | .rt p=>some (.rt p)
        | .ro ys=>some (.ro ys))=some o:=by
      by_cases c:opqAt γ4 j=opqAt γ2 j
      · rw [if_pos c] at e2;exact ⟨c,e2⟩
      · rw [if_neg c] at e2;cases e2
    refine x1_2 (bind_get e2) fun ob e5 e2 => ?_
    refine ⟨orH B E2,F₀,F3,γ2,p,γ4,S3,r3,e4,fun σ4 S4 _ _ => ?_⟩
    have S5:=S2.next mono S4 c g3.ext
    refine ⟨B,F₀,F3,E2,a,γ4,t2,ob,S5,e5,?_⟩
    cases ob with
    | nx γ5 t5=>exact fun σ H F E S=>⟨F,E,γ5,t5,S,e2⟩
    | ct γ5 t5=>exact fun σ H F E S=>⟨F,E,γ5,t5,S,e2⟩
    | bk γ5 t5 =>
      cases e2
      exact fun σ H F E S=>ok σ H F E S
    | rt p =>
      cases e2
      exact ok
    | ro ys =>
      cases e2
      exact ok
  · have e:i=xs.length:=by omega
    subst e
    rw [List.drop_length] at e2
    cases e2
    exact .inl ⟨(it F2).stop H2 S2.sr.sub,ok σ2 H2 F2 E2 S2⟩
theorem xm_forR (mono:PMono P) {tg iter:Expr} {ts:List Nat} {mi:PEnv→Option (List PV)} {g:PV→PEnv→Option PEnv} {sb:MX τ} {body:List Stmt} (hp:PassesOwn (model X.prog X.w) X.A X.env X.xe) (hc:X.calm=true) (hi:IMR X ms tg iter mi) (hg:GM X ts tg g) (hb:XMs X P j body sb)
    (hs:∀ x,foldedSetIterable iter X.env x=pure x:=by intro _;rfl):XM X P j (.For tg iter body [] pos) (xForR j mi g sb):=PS.imp (ps_for hp hc hi hg hb hs) fun D σ H hq9=>x8_3 hq9 fun B F₀ F E a γ t o S e ok=>by
  refine xq fun _ kq=>?_
  refine x1_2 (bind_get e) fun xs e1 e2 => ?_
  refine x1_3 (S.sr.see ms) fun F1 S1 x1 er => ?_
  apply kq
  exact ⟨F1,γ,xs,S1.sub,er,e1,fun J H' sm it=>forX_core mono (S.same sm) it e2 ok⟩
end
end L2.PM

set_option Elab.async false
set_option linter.all false
set_option maxRecDepth 100000
noncomputable section
namespace L2.PM
open PySem PySem.Spec PyProof.Rows
theorem ite_get' {α:Type} {c:Prop} [Decidable c] {a:Option α} {r:α} (h:(if c then a else none)=some r):c∧a=some r:=by
  by_cases z:c
  · rw [if_pos z] at h;exact ⟨z,h⟩
  · rw [if_neg z] at h;cases h
noncomputable def rowsR (K:PySem.W.Frag) (E:Hp) (a:Addr):List (List PV)→List V→Prop
  | [],vs=>vs=[]
  | xs :: r,vs=>∃ h us t,vs = .ref h :: t∧h≠a∧E h=some (.lst us)∧RepL K (fun _=>none) xs us∧rowsR K E a r t
noncomputable def OwLL (K:PySem.W.Frag) (F E:Hp) (a:Addr) (xss:List (List PV)):Prop:=∃ vs,E a=some (.lst vs)∧rowsR K E a xss vs
theorem rowsR.length {K:PySem.W.Frag} {E:Hp} {a:Addr}:∀ {xss:List (List PV)} {vs:List V},rowsR K E a xss vs→vs.length=xss.length
  | [],_,h=>by unfold rowsR at h;subst h;rfl
  | xs :: r,_,h=>by
    unfold rowsR at h
    refine xq fun _ kq=>?_
    refine x3_5 (h) fun h1 us t zq1 _ _ _ h5 => ?_
    obtain rfl:=zq1
    apply kq
    simp [rowsR.length h5]
theorem rowsR.snoc {K:PySem.W.Frag} {E E':Hp} {a:Addr} (hE:∀ b o,b≠a→E b=some o→E' b=some o) {c:Addr} {xs:List PV} {us:List V} (hc:c≠a) (h2:E' c=some (.lst us)) (h3:RepL K (fun _=>none) xs us):∀ {xss:List (List PV)} {vs:List V},rowsR K E a xss vs→rowsR K E' a (xss++[xs]) (vs++[.ref c])
  | [],_,h=>by
    unfold rowsR at h
    subst h
    exact ⟨c,us,[],rfl,hc,h2,h3,rfl⟩
  | ys :: r,_,h=>by
    unfold rowsR at h
    refine xq fun _ kq=>?_
    refine x3_5 (h) fun h1 ws t zq1 k2 k3 k4 k5 => ?_
    obtain rfl:=zq1
    apply kq
    exact ⟨h1,ws,_,rfl,k2,hE _ _ k2 k3,k4,rowsR.snoc hE hc h2 h3 k5⟩
noncomputable def rdLL (xss:List (List PV)):Option PV:=some (.lst (xss.map .lst))
section
variable {X:Cx} {j:Nat} {st:Stmt} {sts:List Stmt} {e c:Expr} {ms ns:List Nat} {pos p2 p3 apos cpos:Pos} {x:Str}
noncomputable def xApp (mo:PEnv→Option (List PV)):MX (List (List PV)):=fun γ xss=>(mo γ).bind fun r=>if xss.length < LIM∧r.all flat=true then some (.nx γ (xss++[r])) else none
noncomputable def sTail {τ:Type} (j:Nat) (mo:PEnv→Option (List PV)) (t0:τ) (mx:MX τ):MSt:=fun γ=>open Classical in if h:mo γ=some []∧j < γ.length∧∃ r,∀ a,mx (γ.set j (.fz (.opq a))) t0=some (.rt r) then some (.rt (Classical.choose h.2.2)) else none
noncomputable def xEnd (ma:PEnv→Option (List PV)) (s2:MSt):MX (List (List PV)):=fun γ xss=>match xss with
  | xs :: _=>if xs.length < LIM then (ma γ).bind fun r=>match r with
    | [q]=>if flat q=true then (s2 γ).bind fun o=>match o with
      | .rt p=>some (.rt p)
      | _=>none
      else none
    | _=>none
    else none
  | []=>none
end
end L2.PM

set_option Elab.async false
set_option linter.all false
set_option maxRecDepth 100000
noncomputable section
namespace L2.PM
open PySem PySem.Spec PyProof.Rows
section
variable {X:Cx} {o e:Expr} {es:List Expr} {ms ns:List Nat} {m:MEx} {ma:PEnv→Option (List PV)} {C:Addr} {f:Str} {pos apos:Pos}
theorem lookup_rep {K:PySem.W.Frag} {F:Hp} {f:Str}:∀ {ks:List Str} {ps:List PV} {vs:List V} {p:PV},ks.length=vs.length→RepL K F ps vs→(ks.zip ps).lookup f=some p→∃ v,(ks.zip vs).lookup f=some v∧Rep K F p v
  | [],_,_,_,_,_,h=>by simp at h
  | k :: ks,[],_,_,_,_,h=>by simp at h
  | k :: ks,q :: ps,vs,p,hl,hr,h=>by
    unfold RepL at hr
    refine xq fun _ kq=>?_
    refine x2_3 (hr) fun v t zq1 h2 h3 => ?_
    obtain rfl:=zq1
    apply kq
    simp only [List.zip_cons_cons,List.lookup_cons] at h ⊢
    cases hk:f==k with
    | true =>
      rw [hk] at h
      cases h
      exact ⟨v,rfl,h2⟩
    | false =>
      rw [hk] at h
      exact lookup_rep (by simpa using hl) h3 h
theorem lookup_none {f:Str}:∀ {ks:List Str} {vs:List V},ks.contains f=false→(ks.zip vs).lookup f=none
  | [],_,_=>by simp
  | k :: ks,[],_=>by simp
  | k :: ks,v :: vs,h=>by
    rw [List.contains_cons,Bool.or_eq_false_iff] at h
    simp only [List.zip_cons_cons,List.lookup_cons,h.1]
    exact lookup_none h.2
noncomputable def fldK (C:Addr) (f:Str):PV→Option PV
  | .obj D ks ps=>if D=C then (ks.zip ps).lookup f else none
  | _=>none
noncomputable def mFld (C:Addr) (f:Str) (m:MEx):MEx:=fun γ=>(m γ).bind (fldK C f)
theorem em_fld (h:EM X ms o m) (hc:Cls X.K C) (hn:NoAttr X.K C f) (hb:attributeBase o f X.env (eval o X.env)=eval o X.env:=by rfl):EM X ms (.Attribute o f pos) (mFld C f m) :=
  PE.imp (pe_fld h hb) fun σ H Q hq9=>x3_4 hq9 fun F γ r k1 k2 k3 w=>by
    refine x1_2 (bind_get k3) fun q e1 e2 => ?_
    refine ⟨F,γ,q,k1,k2,e1,fun v H1 F1 g1 q1 => ?_⟩
    cases q with
    | obj D ks ps =>
      have e2:(if D=C then (ks.zip ps).lookup f else none)=some r:=e2
      have hD:D=C:=by
        by_cases z:D=C
        · exact z
        · rw [if_neg z] at e2;cases e2
      subst hD
      rw [if_pos rfl] at e2
      unfold Rep at q1
      refine xq fun _ kq=>?_
      refine x3_5 (q1) fun a dx vs zq1 h2 h3 h4 h5 => ?_
      obtain rfl:=zq1
      refine x1_2 (lookup_rep h4 h5 e2) fun v' l rv => ?_
      apply kq
      exact ⟨a,D,dx,_,v',rfl,g1.sub _ _ h2,hc,hn,l,w _ _ _ g1 rv⟩
    | _=>cases e2
noncomputable def isC (C:Addr) (f:Str):PV→Bool
  | .obj D ks _=>(D==C) && !ks.contains f
  | _=>false
noncomputable def mMeth (C:Addr) (f:Str) (g:List PV→Option PV) (m:MEx) (ma:PEnv→Option (List PV)):MEx:=fun γ=>(m γ).bind fun q=>if isC C f q=true then (ma γ).bind fun ps=>g (q :: ps) else none
theorem isC_get {f:Str} {q:PV} (h:isC C f q=true):∃ ks ps,q = .obj C ks ps∧ks.contains f=false:=by
  cases q with
  | obj D ks ps =>
    have h:((D==C) && !ks.contains f)=true:=h
    rw [Bool.and_eq_true,beq_iff_eq] at h
    obtain ⟨rfl,h2⟩:=h
    exact ⟨ks,ps,rfl,by simpa using h2⟩
  | _=>cases h
variable {k n:Nat} {fa:Addr} {fd:FuncData} {ps:List Str}
theorem em_meth {pl:Sem Bool} {g:List PV→Option PV} (h:EM X ms o m) (hc:Cls X.K C) (hm:Meth X.K C f fa) (F:FnOk X.prog X.w X.K X.mg X.base CX0 k fa fd ps (spM X.K n g)) (hn:∀ ps r,g ps=some r→ps.length=n) (hr:Room k X.A) (hb:Binds X.K fd ps [])
    (ha:AM X ns (e :: es) ma) (hst:starEach (e :: es) X.env=(false,eval e X.env) :: starEach es X.env:=by rfl) (hpl:(backTo pos (starEach es X.env)).any (·.1)=false:=by rfl)
    (ht:eval (.Call (.Attribute o f apos) (e :: es) [] pos) X.env=(do
      let ov ← eval o X.env
      standAt apos.atName
      let (f,first) ← holding [ov] (getMethod ov f pl)
      callWith pos f first (backTo pos (starEach (e :: es) X.env)) (backToKw pos (keywordEach [] X.env))):=by rfl) :
    EM X (ms++ns) (.Call (.Attribute o f apos) (e :: es) [] pos) (mMeth C f g m ma) :=
  PE.imp (pe_meth (E:=E0) h hc hm F hr hb .nil pass0 ha hst hpl ht) fun σ H Q hq9=>x3_4 hq9 fun F γ r k1 k2 k3 w=>by
    refine x1_2 (bind_get k3) fun q e1 k3 => ?_
    have c:isC C f q=true:=by
      by_cases c:isC C f q=true
      · exact c
      · rw [if_neg c] at k3;cases k3
    rw [if_pos c] at k3
    refine xq fun _ kq=>?_
    refine x1_2 (bind_get k3) fun xs e2 k3 => ?_
    refine x2_2 (isC_get c) fun ks qs zq1 hk => ?_
    obtain rfl:=zq1
    apply kq
    refine ⟨F,γ,_,k1,k2.left,e1,fun v H1 F1 g1 q1 => ?_⟩
    have q0:=q1
    unfold Rep at q1
    refine xq fun _ kq=>?_
    refine x3_5 (q1) fun a dx vs zq1 h2 h3 h4 h5 => ?_
    obtain rfl:=zq1
    apply kq
    refine ⟨a,dx,_,rfl,g1.sub _ _ h2,lookup_none hk,F1,γ,xs,g1.sub,k2.right.mono g1.ext,e2,fun us H2 F2 g2 q2 => ?_⟩
    dsimp only
    rw [List.append_nil]
    exact ⟨by have:=hn _ _ k3;rw [List.length_cons] at this ⊢;rw [q2.length];exact this,F2,_,r,g2.sub,.cons (q0.mono g2.ext) q2,k3,w.go (g1.trans g2)⟩
theorem em_meth0 {pl:Sem Bool} {g:List PV→Option PV} (h:EM X ms o m) (hc:Cls X.K C) (hm:Meth X.K C f fa) (F:FnOk X.prog X.w X.K X.mg X.base CX0 k fa fd ps (spM X.K n g)) (hn:∀ ps r,g ps=some r→ps.length=n) (hr:Room k X.A) (hb:Binds X.K fd ps [])
    (ht:eval (.Call (.Attribute o f apos) [] [] pos) X.env=(do
      let ov ← eval o X.env
      standAt apos.atName
      let (f,first) ← holding [ov] (getMethod ov f pl)
      callWith pos f first (backTo pos (starEach [] X.env)) (backToKw pos (keywordEach [] X.env))):=by rfl) :
    EM X ms (.Call (.Attribute o f apos) [] [] pos) (mMeth C f g m aNil) :=
  PE.imp (pe_meth0 (E:=E0) h hc hm F hr hb .nil pass0 ht) fun σ H Q hq9=>x3_4 hq9 fun F γ r k1 k2 k3 w=>by
    refine x1_2 (bind_get k3) fun q e1 k3 => ?_
    have c:isC C f q=true:=by
      by_cases c:isC C f q=true
      · exact c
      · rw [if_neg c] at k3;cases k3
    rw [if_pos c] at k3
    have k3:g [q]=some r:=k3
    refine xq fun _ kq=>?_
    refine x2_2 (isC_get c) fun ks qs zq1 hk => ?_
    obtain rfl:=zq1
    apply kq
    refine ⟨F,γ,_,k1,k2,e1,fun v H1 F1 g1 q1 => ?_⟩
    have q0:=q1
    unfold Rep at q1
    refine xq fun _ kq=>?_
    refine x3_5 (q1) fun a dx vs zq1 h2 h3 h4 h5 => ?_
    obtain rfl:=zq1
    apply kq
    refine ⟨a,dx,_,rfl,g1.sub _ _ h2,lookup_none hk,?_⟩
    exact ⟨by have:=hn _ _ k3;simpa using this,F1,_,r,g1.sub,.cons q0 .nil,k3,w.go g1⟩
end
end L2.PM

set_option Elab.async false
set_option linter.all false
set_option maxRecDepth 100000
noncomputable section
namespace L2.PM
open PySem PySem.Spec PyProof.Rows
structure GrowX (F E H F' E' H':Hp):Prop where
  ext:Same F F'
  sub:Same F' H'
  esub:Same E' H'
  same:∀ b o,H b=some o→E b=none→H' b=some o
  new:∀ b o,F' b=some o→F b=some o∨H b=none∨E b≠none
  enew:∀ b o,E' b=some o→E b≠none∨H b=none
  dj:∀ b o,E' b=some o→F' b=none
section
variable {τ:Type}
noncomputable def spX (K:PySem.W.Frag) (P:Hp→Hp→Addr→τ→Prop) (n:Nat) (g:Addr→List PV→τ→Option τ):Sp:=fun vs H Q _=>vs.length=n∧∃ F E a t us qs t',vs = .ref a :: us∧Same F H∧Same E H∧(∀ b o,E b=some o→F b=none)∧P F E a t∧RepL K F qs us∧g a qs t=some t' ∧
  ∀ H' F' E',GrowX F E H F' E' H'→P F' E' a t'→Q .non H'
noncomputable def outX:OutX τ→Option τ
  | .nx _ t=>some t
  | _=>none
noncomputable def runX (N n:Nat) (m:MX τ) (a:Addr) (qs:List PV) (t:τ):Option τ:=if qs.length + 1=n then (m (startG N (.opq a :: qs)) t).bind outX else none
noncomputable def minH (H E:Hp):Hp:=fun b=>match E b with
  | none=>H b
  | some _=>none
theorem minH_l {H E:Hp} {b:Addr} {o:HO} (h:minH H E b=some o):H b=some o∧E b=none:=by
  unfold minH at h
  cases q:E b with
  | none=>rw [q] at h;exact ⟨h,rfl⟩
  | some u=>rw [q] at h;cases h
theorem minH_of {H E:Hp} {b:Addr} {o:HO} (h:H b=some o) (n:E b=none):minH H E b=some o:=by unfold minH;rw [n];exact h
theorem minH_none {H E:Hp} {b:Addr} (h:minH H E b=none):E b≠none∨H b=none:=by
  unfold minH at h
  cases q:E b with
  | none=>rw [q] at h;exact .inr h
  | some u=>exact .inl fun z=>by cases z
variable {P':Program} {w:World} {K:PySem.W.Frag} {mg:Str→Option Value} {base:Heap} {P:Hp→Hp→Addr→τ→Prop}
theorem fnX {x qual:Str} {st:Stmt} {f:Addr} {fd:FuncData} {N ps:List Str} {k n:Nat} {m:MX τ} (Fn:Fun K x qual st f fd) (Sc:FnScope N ps (defScope st)) (hn:ps.length=n)
    (hbody:∀ (cdv:Value) (A:Around) (outer:List Env) (s:Shared) (H:Hp) (E:XK),Room k (A.deeper (envOfC qual (defScope st) s.heap.objs.size f cdv)) →
      XMs (cxOf CX0 P' w K mg base N qual (defScope st) f cdv A outer s H E).nox P 0 (defBody st) m):FnOk P' w K mg base CX0 (k + 1) f fd ps (spX K P n (runX N.length n m)):=by
  refine Fn.ok Sc (fun vs H Q E h=>by rw [h.1,hn]) fun cdv A outer s H vs Q E hr h => ?_
  refine ⟨_,hbody cdv A outer s H E hr,?_⟩
  refine xq fun _ kq=>?_
  obtain ⟨hl,F,G,a,t,us,qs,t',rfl,h1,h2,h3,h4,h5,h6,wv⟩:=h
  apply kq
  unfold runX at h6
  have hq:qs.length + 1=n:=by rw [← h5.length];exact hl
  rw [if_pos hq] at h6
  refine x1_2 (bind_get h6) fun o e1 e2 => ?_
  have T:SR K H F F (start N (.ref a :: us)) H (startG N.length (.opq a :: qs)):=start_sr h1 (.cons (by unfold Rep;rfl) h5)
  have hsub:∀ b o,orH (minH H G) G b=some o→H b=some o:=fun b o e=>by
    rcases orH_get e with z | ⟨_,z⟩
    · exact (minH_l z).1
    · exact h2 b o z
  refine ⟨minH H G,F,F,G,a,_,t,o,⟨⟨T.sub,hsub,T.f0,fun b o e => .inl e,T.len,T.fz,fun i xs e => ?_,T.dj⟩,?_,h4,fun b o e => ?_,h3⟩,e1,?_⟩
  · refine xq fun _ kq=>?_
    refine x2_5 (T.ow i xs e) fun c vs k1 k2 k3 k4 k5 => ?_
    apply kq
    rw [k5] at k2;cases k2
  · unfold opqAt startG
    rfl
  · unfold minH;rw [e]
  · cases o with
    | nx γ t2 =>
      cases e2
      intro σ' H' F' E' S
      refine wv H' F' E' ⟨S.sr.f0,S.sr.sub,fun b o e=>S.sr.base b o (orH_r (S.db b o e) e),fun b o e n=>S.sr.base b o (orH_l b o (minH_of e n)),fun b o e => ?_,fun b o e=>minH_none (S.db b o e),S.df⟩ S.own
      rcases S.sr.fb b o e with z | z
      · exact .inl z
      · exact .inr ((minH_none (orH_none z).1).symm)
    | _=>cases e2
theorem frz1_fz {γ:PEnv} {i j:Nat} {p:PV} (h:γ[j]?=some (.fz p)):(PM.frz1 γ i)[j]?=some (.fz p):=by
  unfold PM.frz1
  split
  · rename_i ys e
    by_cases e':i=j
    · subst e';rw [h] at e;cases e
    · rw [List.getElem?_set_ne e'];exact h
  · exact h
theorem frz_fz:∀ (ms:List Nat) {γ:PEnv} {j:Nat} {p:PV},γ[j]?=some (.fz p)→(PM.frz ms γ)[j]?=some (.fz p)
  | [],_,_,_,h=>h
  | i :: ms,γ,j,p,h=>frz_fz ms (γ:=PM.frz1 γ i) (frz1_fz h)
noncomputable def HasM (P:Hp→Hp→Addr→τ→Prop) (C:Addr) (m:Str) (okm:τ→Bool):Prop:=∀ F E a t,okm t=true→P F E a t→∃ dx fs,E a=some (.ins C dx fs)∧fs.lookup m=none
theorem SX.called {K:PySem.W.Frag} {P:Hp→Hp→Addr→τ→Prop} {j:Nat} {B F₀ F' E F2 E2 H' H2:Hp} {a:Addr} {σ:St} {γ:PEnv} {t':τ} (T:SR K (orH B E) F₀ F' σ H' γ) (hat:opqAt γ j=some a) (hdb:∀ b o,E b=some o→B b=none) (G:GrowX F' E H' F2 E2 H2) (hp:P F2 E2 a t'):SX K P j B F₀ F2 E2 a σ H2 γ t':=by
  have e0:∀ b o,B b=some o→E b=none:=fun b o h=>by
    cases q:E b with
    | none=>rfl
    | some u=>rw [hdb b u q] at h;cases h
  refine ⟨⟨G.sub,fun b o e => ?_,T.f0.trans G.ext,fun b o e => ?_,T.len,fun i p e => ?_,fun i ys e => ?_,T.dj⟩,hat,hp,fun b o e => ?_,G.dj⟩
  · rcases orH_get e with z | ⟨z1,z2⟩
    · exact G.same b o (T.base b o (orH_l b o z)) (e0 b o z)
    · exact G.esub b o z2
  · have hE2:E2 b=none:=by
      cases q:E2 b with
      | none=>rfl
      | some u=>rw [G.dj b u q] at e;cases e
    rcases G.new b o e with z | z | z
    · exact (T.fb b o z).imp id fun y=>orH_of (orH_none y).1 hE2
    · exact .inr (orH_of (orH_none (T.base.free z)).1 hE2)
    · refine .inr (orH_of ?_ hE2)
      cases q:E b with
      | none=>exact absurd q z
      | some u=>exact hdb b u q
  · refine x1_2 (T.fz i p e) fun v k1 k2 => ?_
    exact ⟨v,k1,k2.mono G.ext⟩
  · refine xq fun _ kq=>?_
    refine x2_5 (T.ow i ys e) fun c ts k1 k2 k3 k4 k5 => ?_
    obtain ⟨z1,z2⟩:=orH_none k5
    apply kq
    refine ⟨c,ts,k1,G.same c _ k2 z2,k3.mono G.ext,?_,orH_of z1 ?_⟩
    · cases q:F2 c with
      | none=>rfl
      | some u =>
        rcases G.new c u q with y | y | y
        · rw [k4] at y;cases y
        · rw [k2] at y;cases y
        · exact absurd z2 y
    · cases q:E2 c with
      | none=>rfl
      | some u =>
        rcases G.enew c u q with y | y
        · exact absurd z2 y
        · rw [k2] at y;cases y
  · rcases G.enew b o e with z | z
    · cases q:E b with
      | none=>exact absurd q z
      | some u=>exact hdb b u q
    · exact (orH_none (T.base.free z)).1
noncomputable def xMeth (j:Nat) (ms:List Nat) (okm:τ→Bool) (g:Addr→List PV→τ→Option τ) (ma:PEnv→Option (List PV)):MX τ:=fun γ t=>(ma γ).bind fun qs=>(opqAt γ j).bind fun a=>if okm t=true then (g a qs t).map fun t' => .nx (frz ms γ) t' else none
theorem xm_meth {X:Cx} {j n:Nat} {C:Addr} {mm:Str} {g:Addr→List PV→τ→Option τ} {P:Hp→Hp→Addr→τ→Prop} {st:Stmt} {ms:List Nat} {ma:PEnv→Option (List PV)} {E0':XK} {okm:τ→Bool} (mono:PMono P) (hM:HasM P C mm okm) (hn:∀ a qs t t',g a qs t=some t'→qs.length + 1=n)
    (ps:PS X st (tDrop (tMeth C mm (spX X.K P n g) [] E0' (tVar j) (tMA X.K ms ma)))):XM X P j st (xMeth j ms okm g ma):=PS.imp ps fun D σ H hq9=>x8_3 hq9 fun B F₀ F E a γ t o S e ok=>by
  refine xq fun _ kq=>?_
  refine x1_2 (bind_get e) fun qs e1 e => ?_
  refine x1_2 (bind_get e) fun a' e2 e => ?_
  apply kq
  rw [S.at_] at e2
  cases e2
  refine xq fun _ kq=>?_
  obtain ⟨hok,e⟩:=ite_get' e
  refine x1_2 (map_get e) fun t' e3 zq1 => ?_
  obtain rfl:=zq1
  refine x2_2 (hM _ _ _ _ hok S.own) fun dx fs w1 w2 => ?_
  refine x1_2 (S.sr.fz j _ (opqAt_get S.at_)) fun v hv rv => ?_
  apply kq
  unfold Rep at rv
  subst rv
  have ha:H a=some (.ins C dx fs):=S.sr.base a _ (orH_r (S.db _ _ w1) w1)
  refine xq fun _ kq=>?_
  refine x1_3 (S.sr.see ms) fun F1 S1 x1 er => ?_
  apply kq
  refine ⟨.ref a,hv,a,dx,fs,rfl,ha,w2,F1,γ,qs,S1.sub,er,e1,fun us H' F' gr q => ?_⟩
  dsimp only
  rw [List.append_nil]
  have T:=S1.grow gr
  have hE:Same E H':=fun b o e=>gr.same b o (S.sr.base b o (orH_r (S.db b o e) e))
  have hat:opqAt (PM.frz ms γ) j=some a:=by
    have:=frz_fz ms (opqAt_get S.at_)
    unfold opqAt
    rw [this]
  have SX1:SX X.K P j B F₀ F' E a σ H' (PM.frz ms γ) t:=S.next mono T (hat.trans S.at_.symm) (x1.trans gr.ext)
  refine ⟨by have:=hn _ _ _ _ e3;rw [List.length_cons,q.length];exact this,F',E,a,t,us,qs,t',rfl,gr.sub,hE,SX1.df,SX1.own,q,e3,fun H2 F2 E2 G hp => ?_⟩
  exact ok σ H2 F2 E2 (SX.called T hat S.db G hp)
end
end L2.PM

set_option Elab.async false
set_option linter.all false
set_option maxRecDepth 100000
noncomputable section
namespace L2.PM
open PySem PySem.Spec PyProof.Rows
structure OT where
  ks:List Str
  ps:List PV
  mv:Option Nat
noncomputable def lastF (km:Str) (b:Addr):Option Nat→List (Str×V)
  | none=>[]
  | some _=>[(km,.ref b)]
noncomputable def lastE (E:Hp) (a dx b:Addr):Option Nat→Prop
  | none=>True
  | some n=>b≠a∧b≠dx∧∃ ws,E b=some (.lst ws)∧ws.length=n
noncomputable def ObjG (K:PySem.W.Frag) (C:Addr) (km:Str) (F E:Hp) (a:Addr) (t:OT):Prop:=∃ dx b vs,E a=some (.ins C dx (t.ks.zip vs++lastF km b t.mv))∧E dx=some (.own a)∧dx≠a∧t.ks.length=vs.length∧lastE E a dx b t.mv∧RepL K F t.ps vs
theorem objG_mono (K:PySem.W.Frag) (C:Addr) (km:Str):PMono (ObjG K C km):=fun _ _ _ _ _ e hq9=>x3_6 hq9 fun dx b vs h1 h2 h3 h4 h5 h6=>⟨dx,b,vs,h1,h2,h3,h4,h5,h6.mono e⟩
noncomputable def rdObj (C:Addr) (km:Str) (t:OT) (b:Addr):PV:=match t.mv with
  | none => .obj C t.ks t.ps
  | some _ => .obj C (t.ks++[km]) (t.ps++[.opq b])
theorem zip_snoc {ks:List Str} {vs:List V} {km:Str} {v:V} (h:ks.length=vs.length):(ks++[km]).zip (vs++[v])=ks.zip vs++[(km,v)]:=by
  rw [List.zip_append h];rfl
theorem objG_reads {K:PySem.W.Frag} {C:Addr} {km:Str} {F E:Hp} {a:Addr} {t:OT} (hE:∀ b o,E b=some o→F b=none) (h:ObjG K C km F E a t):∃ b,Rep K (orH F E) (rdObj C km t b) (.ref a):=by
  refine xq fun _ kq=>?_
  refine x3_6 (h) fun dx b vs h1 h2 h3 h4 h5 h6 => ?_
  apply kq
  refine ⟨b,?_⟩
  unfold rdObj
  cases q:t.mv with
  | none =>
    rw [q] at h1
    unfold Rep
    exact ⟨a,dx,vs,rfl,by rw [← List.append_nil (t.ks.zip vs)];exact orH_r (hE _ _ h1) h1,orH_r (hE _ _ h2) h2,h4,h6.mono orH_l⟩
  | some n =>
    rw [q] at h1
    unfold Rep
    refine ⟨a,dx,vs++[.ref b],rfl,?_,orH_r (hE _ _ h2) h2,by simp [h4],(h6.mono orH_l).snoc (by unfold Rep;rfl)⟩
    rw [zip_snoc h4]
    exact orH_r (hE _ _ h1) h1
section
variable {τ:Type} {X:Cx} {P:Hp→Hp→Addr→τ→Prop} {j:Nat} {st:Stmt} {sts:List Stmt} {e c:Expr} {ms ns:List Nat} {pos p2:Pos}
noncomputable def ReadsA (K:PySem.W.Frag) (P:Hp→Hp→Addr→τ→Prop) (rd:τ→Addr→PV):Prop:=∀ (F E:Hp) (a:Addr) (t:τ),(∀ b o,E b=some o→F b=none)→P F E a t→∃ b,Rep K (orH F E) (rd t b) (.ref a)
theorem reads_obj (K:PySem.W.Frag) (C:Addr) (km:Str):ReadsA K (ObjG K C km) (rdObj C km):=fun F E a t hE h=>objG_reads hE h
noncomputable def allB {α:Type} (f:Addr→Option α):Option α:=open Classical in if h:∃ k,∀ b,f b=some k then some (Classical.choose h) else none
theorem allB_get {α:Type} {f:Addr→Option α} {k:α} (h:allB f=some k) (b:Addr):f b=some k:=by
  unfold allB at h
  split at h
  · rename_i q
    cases h
    exact Classical.choose_spec q b
  · cases h
theorem allB_ok {α:Type} {f:Addr→Option α} {k:α} (h:∀ b,f b=some k):allB f=some k:=by
  unfold allB
  have q:∃ k,∀ b,f b=some k:=⟨k,h⟩
  rw [dif_pos q]
  have:=Classical.choose_spec q 0
  rw [h 0] at this
  exact this.symm
theorem SX.seeA {K:PySem.W.Frag} {B F₀ F E H:Hp} {a:Addr} {σ:St} {γ:PEnv} {t:τ} (S:SX K P j B F₀ F E a σ H γ t) {rd:τ→Addr→PV} (hr:ReadsA K P rd) (ms:List Nat):∃ b F1,Same F1 H∧ERep K F1 σ (γ.set j (.fz (rd t b))) ms:=by
  obtain ⟨b,hb⟩:=hr F E a t S.df S.own
  have S':SX K (fun F' E' a' p=>∀ F2,Same F' F2→(∀ b o,E' b=some o→F2 b=none)→Rep K (orH F2 E') p (.ref a')) j B F₀ F E a σ H γ (rd t b):=⟨S.sr,S.at_,fun F2 e hE=>hb.mono fun c o q=>by
    rcases orH_get q with z | ⟨_,z⟩
    · exact orH_l c o (e c o z)
    · exact orH_r (hE c o z) z,S.db,S.df⟩
  obtain ⟨F1,h1,h2⟩:=S'.see (rd:=some) (fun F' E' a' t' p hE' h e=>by cases e;exact h F' (Same.refl _) hE') rfl ms
  exact ⟨b,F1,h1,h2⟩
noncomputable def xIfA (j:Nat) (rd:τ→Addr→PV) (tt:PEnv→Option Bool) (s1 s2:MX τ):MX τ:=fun γ t=>(allB fun b=>tt (γ.set j (.fz (rd t b)))).bind fun k=>if k=true then s1 γ t else s2 γ t
theorem xm_ifA {rd:τ→Addr→PV} (hr:ReadsA X.K P rd) {tt:PEnv→Option Bool} {xs ys:List Stmt} {s1 s2:MX τ} (hc:TM X ms c tt) (ha:XMs X P j xs s1) (hb:XMs X P j ys s2):XM X P j (.If c xs ys pos) (xIfA j rd tt s1 s2):=PS.imp (ps_if hc ha hb) fun D σ H hq9=>x8_3 hq9 fun B F₀ F E a γ t o S e ok=>by
  refine xq fun _ kq=>?_
  refine x1_2 (bind_get e) fun k e1 e2 => ?_
  refine x2_2 (S.seeA hr ms) fun b F1 hs er => ?_
  apply kq
  refine ⟨F1,γ.set j (.fz (rd t b)),k,hs,er,allB_get e1 b,fun H' F' g => ?_⟩
  cases k with
  | true=>rw [if_pos rfl] at e2 ⊢;exact ⟨B,F₀,F,E,a,γ,t,o,S.same g.same,e2,ok⟩
  | false=>rw [if_neg Bool.false_ne_true] at e2 ⊢;exact ⟨B,F₀,F,E,a,γ,t,o,S.same g.same,e2,ok⟩
noncomputable def xRetA (j:Nat) (rd:τ→Addr→PV) (m:MEx):MX τ:=fun γ t=>(allB fun b=>m (γ.set j (.fz (rd t b)))).bind fun r=>if flat r=true then some (.rt r) else none
theorem xm_retA {rd:τ→Addr→PV} (hr:ReadsA X.K P rd) {m:MEx} (h:EM X ms e m):XM X P j (.Return (some e) pos) (xRetA j rd m):=PS.imp (ps_ret h) fun D σ H hq9=>x8_3 hq9 fun B F₀ F E a γ t o S e ok=>by
  refine xq fun _ kq=>?_
  refine x1_2 (bind_get e) fun r e1 e2 => ?_
  obtain ⟨hf,rfl⟩:=ite_get e2
  refine x2_2 (S.seeA hr ms) fun b F1 hs er => ?_
  apply kq
  exact ⟨F1,γ.set j (.fz (rd t b)),r,hs,er,allB_get e1 b,fun v H' F' g q=>ok v H' F (S.sr.same g.same).gr.offE (q.flat hf)⟩
noncomputable def xSetA (j i:Nat) (rd:τ→Addr→PV) (m:MEx):MX τ:=fun γ t=>(allB fun b=>m (γ.set j (.fz (rd t b)))).bind fun r=>if flat r=true∧i≠j then some (.nx (γ.set i (.fz r)) t) else none
end
end L2.PM

set_option Elab.async false
set_option linter.all false
set_option maxRecDepth 100000
noncomputable section
namespace L2.PM
open PySem PySem.Spec PyProof.Rows
theorem growX_upd {F E H:Hp} {c:Addr} {o0 o:HO} (h1:Same F H) (h2:Same E H) (h3:∀ b o,E b=some o→F b=none) (hc:E c=some o0):GrowX F E H F (upd E c o) (upd H c o):=by
  have cF:=h3 c o0 hc
  refine ⟨Same.refl _,fun b u e => ?_,fun b u e => ?_,fun b u e n => ?_,fun b u e => .inl e,fun b u e => ?_,fun b u e => ?_⟩
  · rw [upd_ne (ne_of_none e cF)];exact h1 b u e
  · by_cases z:b=c
    · subst z;rw [upd_same] at e ⊢;exact e
    · rw [upd_ne z] at e ⊢;exact h2 b u e
  · rw [upd_ne fun z=>by subst z;rw [hc] at n;cases n];exact e
  · by_cases z:b=c
    · subst z;exact .inl (by rw [hc];exact fun q=>by cases q)
    · rw [upd_ne z] at e;exact .inl (by rw [e];exact fun q=>by cases q)
  · by_cases z:b=c
    · subst z;exact cF
    · rw [upd_ne z] at e;exact h3 b u e
theorem putF_old {f:Str} {y:V} {tl:List (Str×V)}:∀ {ks:List Str} {vs:List V} {i:Nat},ks.length=vs.length→ks[i]?=some f→f∉ks.take i→putF f y (ks.zip vs++tl)=ks.zip (vs.set i y)++tl
  | [],vs,i,_,h,_=>by simp at h
  | k :: ks,[],i,h,_,_=>by simp at h
  | k :: ks,v :: vs,0,_,h,_=>by
    simp at h
    subst h
    simp [putF]
  | k :: ks,v :: vs,i + 1,hl,h,hn=>by
    rw [List.take_succ_cons,List.mem_cons,not_or] at hn
    have ih:=putF_old (f:=f) (y:=y) (tl:=tl) (ks:=ks) (vs:=vs) (i:=i) (by simpa using hl) (by simpa using h) hn.2
    simp only [List.zip_cons_cons,List.set_cons_succ,List.cons_append,putF]
    rw [if_neg (fun z=>hn.1 z.symm),ih]
theorem putF_new {f:Str} {y:V}:∀ {ks:List Str} {vs:List V},ks.length=vs.length→f∉ks→putF f y (ks.zip vs)=ks.zip vs++[(f,y)]
  | [],[],_,_=>rfl
  | [],_ :: _,h,_=>by simp at h
  | _ :: _,[],h,_=>by simp at h
  | k :: ks,v :: vs,h,hn=>by
    rw [List.mem_cons,not_or] at hn
    have ih:=putF_new (f:=f) (y:=y) (ks:=ks) (vs:=vs) (by simpa using h) hn.2
    simp only [List.zip_cons_cons,List.cons_append,putF]
    rw [if_neg (fun z=>hn.1 z.symm),ih]
section
variable {X:Cx} {j:Nat} {st:Stmt} {sts:List Stmt} {e c:Expr} {ms ns:List Nat} {pos p2:Pos} {C:Addr} {km f:Str}
noncomputable def fieldAt (ks:List Str) (f:Str):Option Nat:=ks.findIdx? (·==f)
noncomputable def putT (f:Str) (r:PV) (t:OT):Option OT:=if t.ks.length < 900 then match fieldAt t.ks f with
  | some i=>some ⟨t.ks,t.ps.set i r,t.mv⟩
  | none=>match t.mv with
    | none=>some ⟨t.ks++[f],t.ps++[r],none⟩
    | some _=>none
  else none
noncomputable def xFset (ms:List Nat) (f:Str) (m:MEx):MX OT:=fun γ t=>(m γ).bind fun r=>(putT f r t).map fun t' => .nx (frz ms γ) t'
theorem fieldAt_some {ks:List Str} {i:Nat} (h:fieldAt ks f=some i):ks[i]?=some f∧f∉ks.take i:=by
  unfold fieldAt at h
  rw [List.findIdx?_eq_some_iff_getElem] at h
  refine x1_2 (h) fun h1 h2 h3 => ?_
  refine ⟨by rw [List.getElem?_eq_getElem h1,beq_iff_eq.mp h2],fun z => ?_⟩
  obtain ⟨k,hk,e⟩:=List.mem_iff_getElem.mp z
  rw [List.getElem_take] at e
  rw [List.length_take] at hk
  have:=h3 k (by omega)
  rw [e] at this
  simp at this
theorem fieldAt_none {ks:List Str} (h:fieldAt ks f=none):f∉ks:=by
  unfold fieldAt at h
  rw [List.findIdx?_eq_none_iff] at h
  intro z
  have:=h f z
  simp at this
theorem put_ok {K:PySem.W.Frag} {F E:Hp} {a dx b:Addr} {t t':OT} {vs:List V} {r:PV} {y:V} (hp:putT f r t=some t') (h1:E a=some (.ins C dx (t.ks.zip vs++lastF km b t.mv))) (h2:E dx=some (.own a)) (h3:dx≠a) (h4:t.ks.length=vs.length) (h5:lastE E a dx b t.mv) (h6:RepL K F t.ps vs) (hy:Rep K F r y) :
    (t.ks.zip vs++lastF km b t.mv).length < 1000∧ObjG K C km F (upd E a (.ins C dx (putF f y (t.ks.zip vs++lastF km b t.mv)))) a t':=by
  unfold putT at hp
  obtain ⟨hl,hp⟩:=ite_get' hp
  have hz:(t.ks.zip vs++lastF km b t.mv).length < 1000:=by
    rw [List.length_append,List.length_zip]
    have:(lastF km b t.mv).length≤1:=by cases t.mv <;> simp [lastF]
    omega
  refine ⟨hz,?_⟩
  have hdx:upd E a (.ins C dx (putF f y (t.ks.zip vs++lastF km b t.mv))) dx=some (.own a):=by rw [upd_ne h3];exact h2
  have hlast:∀ mv,lastE E a dx b mv→lastE (upd E a (.ins C dx (putF f y (t.ks.zip vs++lastF km b t.mv)))) a dx b mv:=fun mv h=>by
    cases mv with
    | none=>trivial
    | some n =>
      refine xq fun _ kq=>?_
      obtain ⟨q1,q2,ws,q3,q4⟩:=h
      apply kq
      exact ⟨q1,q2,ws,by rw [upd_ne q1];exact q3,q4⟩
  split at hp
  · rename_i i hi
    cases hp
    obtain ⟨k1,k2⟩:=fieldAt_some hi
    refine ⟨dx,b,vs.set i y,?_,hdx,h3,by rw [List.length_set];exact h4,hlast _ h5,h6.set i hy⟩
    rw [upd_same,putF_old h4 k1 k2]
  · rename_i hi
    split at hp
    · rename_i hm
      cases hp
      refine ⟨dx,b,vs++[y],?_,hdx,h3,by simp [h4],trivial,h6.snoc hy⟩
      rw [upd_same,hm]
      show some (HO.ins C dx (putF f y (t.ks.zip vs++[])))=some (HO.ins C dx ((t.ks++[f]).zip (vs++[y])++[]))
      rw [List.append_nil,List.append_nil,putF_new h4 (fieldAt_none hi),zip_snoc h4]
    · cases hp
theorem xm_fset (hc:Cls X.K C) (hn:NoAttr X.K C f) {m:MEx} (ps:PS X st (sFld X.K (tVar j) (tM X.K ms m) f)):XM X (ObjG X.K C km) j st (xFset ms f m):=PS.imp ps fun D σ H hq9=>x8_3 hq9 fun B F₀ F E a γ t o S e ok=>by
  refine xq fun _ kq=>?_
  refine x1_2 (bind_get e) fun r e1 e => ?_
  refine x1_2 (map_get e) fun t' e2 zq1 => ?_
  obtain rfl:=zq1
  refine x1_2 (S.sr.fz j _ (opqAt_get S.at_)) fun v hv rv => ?_
  apply kq
  unfold Rep at rv
  subst rv
  refine xq fun _ kq=>?_
  refine x1_3 (S.sr.see ms) fun F1 S1 x1 er => ?_
  apply kq
  refine ⟨F1,γ,r,S1.sub,er,e1,fun y H' F' gr q => ?_⟩
  have T:=S1.grow gr
  have hat:opqAt (PM.frz ms γ) j=some a:=by
    have:=frz_fz ms (opqAt_get S.at_)
    unfold opqAt
    rw [this]
  have SX1:=S.next (objG_mono X.K C km) T (hat.trans S.at_.symm) (x1.trans gr.ext)
  have hE:Same E H':=fun b o e=>gr.same b o (S.sr.base b o (orH_r (S.db b o e) e))
  refine xq fun _ kq=>?_
  refine x3_6 (SX1.own) fun dx b vs h1 h2 h3 h4 h5 h6 => ?_
  obtain ⟨hz,hp⟩:=put_ok e2 h1 h2 h3 h4 h5 h6 q
  apply kq
  refine ⟨.ref a,hv,a,C,dx,_,rfl,hE _ _ h1,hc,hn,hz,?_⟩
  exact ok σ _ F' _ (SX.called T hat S.db (growX_upd gr.sub hE SX1.df h1) hp)
end
end L2.PM

set_option Elab.async false
set_option linter.all false
set_option maxRecDepth 100000
noncomputable section
namespace L2.PM
open PySem PySem.Spec PyProof.Rows
section
variable {X:Cx} {j:Nat} {st:Stmt} {sts:List Stmt} {e c:Expr} {ms ns:List Nat} {pos p2:Pos} {C:Addr} {km f:Str}
theorem opq_frz {γ:PEnv} {a:Addr} (ms:List Nat) (h:opqAt γ j=some a):opqAt (PM.frz ms γ) j=some a:=by
  have:=frz_fz ms (opqAt_get h)
  unfold opqAt
  rw [this]
noncomputable def xFnew (ms:List Nat) (km:Str) (mo:PEnv→Option (List PV)):MX OT:=fun γ t=>(mo γ).bind fun r=>if r.isEmpty=true∧t.ks.length < 900∧t.ks.contains km=false∧t.mv=none then some (.nx (frz ms γ) ⟨t.ks,t.ps,some 0⟩) else none
theorem xm_fnew (hc:Cls X.K C) (hn:NoAttr X.K C km) {mo:PEnv→Option (List PV)} (ps:PS X st (sFld X.K (tVar j) (tMO X.K ms mo) km)):XM X (ObjG X.K C km) j st (xFnew ms km mo):=PS.imp ps fun D σ H hq9=>x8_3 hq9 fun B F₀ F E a γ t o S e ok=>by
  refine xq fun _ kq=>?_
  refine x1_2 (bind_get e) fun r e1 e => ?_
  obtain ⟨⟨c1,c2,c3,c4⟩,rfl⟩:=ite_get e
  obtain rfl:r=[]:=by simpa using c1
  refine x1_2 (S.sr.fz j _ (opqAt_get S.at_)) fun v hv rv => ?_
  apply kq
  unfold Rep at rv
  subst rv
  refine xq fun _ kq=>?_
  refine x1_3 (S.sr.see ms) fun F1 S1 x1 er => ?_
  apply kq
  refine ⟨F1,γ,[],S1.sub,er,e1,fun d us H' F' gr n nF hH q => ?_⟩
  have hu:us=[]:=by unfold RepL at q;exact q
  subst hu
  have hat:=opq_frz ms S.at_
  have SX1:=S.next (objG_mono X.K C km) S1 (hat.trans S.at_.symm) x1
  have hE0:Same E H:=fun b o e=>S.sr.base b o (orH_r (S.db b o e) e)
  have hE:Same E H':=fun b o e=>gr.same b o (hE0 b o e)
  refine xq fun _ kq=>?_
  refine x3_6 (SX1.own) fun dx b vs h1 h2 h3 h4 h5 h6 => ?_
  apply kq
  rw [c4] at h1
  have h1:E a=some (.ins C dx (t.ks.zip vs)):=by rw [h1];show some (HO.ins C dx (t.ks.zip vs++[]))=_;rw [List.append_nil]
  refine ⟨.ref a,hv,a,C,dx,_,rfl,hE _ _ h1,hc,hn,by rw [List.length_zip];omega,?_⟩
  rw [putF_new h4 (by simpa using c3)]
  have da:d≠a:=fun z=>by subst z;rw [hE0 _ _ h1] at n;cases n
  have ddx:d≠dx:=fun z=>by subst z;rw [hE0 _ _ h2] at n;cases n
  have aF:F' a=none:=by
    cases y:F' a with
    | none=>rfl
    | some u =>
      rcases gr.new a u y with z | z
      · rw [SX1.df _ _ h1] at z;cases z
      · rw [hE0 _ _ h1] at z;cases z
  generalize hN:HO.ins C dx (t.ks.zip vs++[(km,.ref d)])=N
  refine ok σ _ F' (upd (upd E d (.lst [])) a N) (SX.called S1 hat S.db ⟨gr.ext,fun b u e => ?_,fun b u e => ?_,fun b u e z => ?_,fun b u e=>(gr.new b u e).imp id .inl,fun b u e => ?_,fun b u e => ?_⟩ ⟨dx,d,vs,?_,?_,h3,h4,⟨da,ddx,[],?_,rfl⟩,h6.mono gr.ext⟩)
  · rw [upd_ne (ne_of_none e aF)];exact gr.sub b u e
  · by_cases z1:b=a
    · subst z1;rw [upd_same] at e ⊢;exact e
    · rw [upd_ne z1] at e ⊢
      by_cases z2:b=d
      · subst z2;rw [upd_same] at e;cases e;exact hH
      · rw [upd_ne z2] at e;exact hE b u e
  · rw [upd_ne fun y=>by subst y;rw [h1] at z;cases z];exact gr.same b u e
  · by_cases z1:b=a
    · subst z1;exact .inl (by rw [h1];exact fun y=>by cases y)
    · rw [upd_ne z1] at e
      by_cases z2:b=d
      · subst z2;exact .inr n
      · rw [upd_ne z2] at e;exact .inl (by rw [e];exact fun y=>by cases y)
  · by_cases z1:b=a
    · subst z1;exact aF
    · rw [upd_ne z1] at e
      by_cases z2:b=d
      · subst z2;exact nF
      · rw [upd_ne z2] at e
        cases y:F' b with
        | none=>rfl
        | some w =>
          rcases gr.new b w y with z | z
          · rw [SX1.df _ _ e] at z;cases z
          · rw [hE0 _ _ e] at z;cases z
  · rw [upd_same,← hN];rfl
  · rw [upd_ne h3,upd_ne (Ne.symm ddx)];exact h2
  · rw [upd_ne da];exact upd_same
theorem lookup_last {ks:List Str} {vs:List V} {v:V} (h:ks.contains km=false):(ks.zip vs++[(km,v)]).lookup km=some v:=by
  induction ks generalizing vs with
  | nil=>simp
  | cons k ks ih =>
    rw [List.contains_cons,Bool.or_eq_false_iff] at h
    cases vs with
    | nil=>simp
    | cons u vs =>
      simp only [List.zip_cons_cons,List.cons_append,List.lookup_cons,h.1]
      exact ih h.2
noncomputable def xFapp (ms:List Nat) (km:Str) (m:MEx):MX OT:=fun γ t=>(m γ).bind fun _=>match t.mv with
  | some n=>if n < LIM∧t.ks.contains km=false then some (.nx (frz ms γ) ⟨t.ks,t.ps,some (n + 1)⟩) else none
  | none=>none
theorem xm_fapp (hc:Cls X.K C) (hn:NoAttr X.K C km) {m:MEx} (ps:PS X st (tDrop (tBM X.K "list" rAppend (tFld X.K (tVar j) km) (tMA X.K ms (aCons m aNil))))):XM X (ObjG X.K C km) j st (xFapp ms km m):=PS.imp ps fun D σ H hq9=>x8_3 hq9 fun B F₀ F E a γ t o S e ok=>by
  refine x1_2 (bind_get e) fun r e1 e => ?_
  split at e
  · rename_i n hm
    refine xq fun _ kq=>?_
    obtain ⟨⟨c1,c2⟩,rfl⟩:=ite_get e
    refine x1_2 (S.sr.fz j _ (opqAt_get S.at_)) fun v hv rv => ?_
    apply kq
    unfold Rep at rv
    subst rv
    have hE0:Same E H:=fun b o e=>S.sr.base b o (orH_r (S.db b o e) e)
    refine xq fun _ kq=>?_
    refine x3_6 (S.own) fun dx0 b0 vs0 h1 h2 h3 h4 h5 h6 => ?_
    apply kq
    rw [hm] at h1 h5
    refine xq fun _ kq=>?_
    obtain ⟨q1,q2,ws,q3,q4⟩:=h5
    refine x1_3 (S.sr.see ms) fun F1 S1 x1 er => ?_
    apply kq
    refine ⟨.ref a,hv,a,C,dx0,_,.ref b0,rfl,hE0 _ _ h1,hc,hn,lookup_last c2,tyV_list (.of (hE0 _ _ q3)),F1,γ,[r],S1.sub,er,by simp [aCons,aNil,e1],fun us H' F' gr q => ?_⟩
    unfold RepL at q
    refine xq fun _ kq=>?_
    refine x2_3 (q) fun y z zq1 qy qz => ?_
    obtain rfl:=zq1
    apply kq
    unfold RepL at qz
    subst qz
    have T:=S1.grow gr
    have hat:=opq_frz ms S.at_
    have SX1:=S.next (objG_mono X.K C km) T (hat.trans S.at_.symm) (x1.trans gr.ext)
    have hE:Same E H':=fun b o e=>gr.same b o (hE0 b o e)
    refine ⟨b0,ws,y,rfl,rfl,hE _ _ q3,by rw [q4];exact Nat.lt_of_lt_of_le c1 lim_line,?_⟩
    refine ok σ _ F' _ (SX.called T hat S.db (growX_upd gr.sub hE SX1.df q3) ⟨dx0,b0,vs0,?_,?_,h3,h4,⟨q1,q2,_,upd_same,by simp [q4]⟩,h6.mono (x1.trans gr.ext)⟩)
    · rw [upd_ne (Ne.symm q1)];exact h1
    · rw [upd_ne (Ne.symm q2)];exact h2
  · cases e
end
end L2.PM

set_option Elab.async false
set_option linter.all false
set_option maxRecDepth 100000
noncomputable section
namespace L2.PM
open PySem PySem.Spec PyProof.Rows
section
variable {X:Cx} {j n:Nat} {st:Stmt} {sts:List Stmt} {e c:Expr} {ms ns:List Nat} {pos p2:Pos} {C:Addr} {km f:Str}
noncomputable def sMake (j:Nat) (ms:List Nat) (ma:PEnv→Option (List PV)) (g:Addr→List PV→OT→Option OT) (mx:MX OT):MSt:=fun γ=>(ma γ).bind fun qs=>(allB fun a=>g a qs ⟨[],[],none⟩).bind fun t=>(allB fun a=>mx ((frz ms γ).set j (.fz (.opq a))) t).bind fun o=>match o with
  | .rt r=>if j < γ.length then some (.rt r) else none
  | _=>none
theorem frz1_length (γ:PEnv) (i:Nat):(PM.frz1 γ i).length=γ.length:=by
  unfold PM.frz1
  split
  · rw [List.length_set]
  · rfl
theorem frz_length:∀ (ms:List Nat) (γ:PEnv),(PM.frz ms γ).length=γ.length
  | [],_=>rfl
  | i :: ms,γ=>by
    show (PM.frz ms (PM.frz1 γ i)).length=_
    rw [frz_length ms,frz1_length]
theorem ss_make {ma:PEnv→Option (List PV)} {g:Addr→List PV→OT→Option OT} {mx:MX OT} {E0':XK} (hn:∀ a qs t t',g a qs t=some t'→qs.length + 1=n)
    (ps:PS X st (tAsg (tMake C (spX X.K (ObjG X.K C km) n g) [] E0' (tMA X.K ms ma)) (gName j))) (hr:XMs X (ObjG X.K C km) j sts mx):SMs X (st :: sts) (sMake j ms ma g mx):=PSs.imp (pss_cons ps hr) fun D σ H hq9=>x5_3 hq9 fun B F₀ F γ o S e ok=>by
  refine xq fun _ kq=>?_
  refine x1_2 (bind_get e) fun qs e1 e => ?_
  refine x1_2 (bind_get e) fun t e2 e => ?_
  refine x1_2 (bind_get e) fun ob e3 e => ?_
  apply kq
  cases ob with
  | rt r =>
    refine xq fun _ kq=>?_
    obtain ⟨hj,rfl⟩:=ite_get e
    refine x1_3 (S.see ms) fun F1 S1 x1 er => ?_
    apply kq
    refine ⟨F1,γ,qs,S1.sub,er,e1,fun us H' F' gr q x dx nx ndx hdx => ?_⟩
    rw [List.append_nil]
    have hj':j < (PM.frz ms γ).length:=by rw [frz_length];exact hj
    have T0:=S1.grow gr
    generalize hHn:upd (upd H' dx (.own x)) x (.ins C dx [])=Hn
    generalize hEn:upd (upd (fun _=>none) dx (.own x)) x (HO.ins C dx [])=En
    have sH:Same H' Hn:=fun b u e=>by
      rw [← hHn,upd_ne (ne_of_none e nx),upd_ne (ne_of_none e ndx)];exact e
    have Ex:En x=some (.ins C dx []):=by rw [← hEn];exact upd_same
    have Ed:En dx=some (.own x):=by rw [← hEn,upd_ne hdx];exact upd_same
    have Eg:∀ b u,En b=some u→b=x∨b=dx:=fun b u e=>by
      by_cases z1:b=x
      · exact .inl z1
      by_cases z2:b=dx
      · exact .inr z2
      rw [← hEn,upd_ne z1,upd_ne z2] at e
      cases e
    have sE:Same En Hn:=fun b u e=>by
      rcases Eg b u e with rfl | rfl
      · rw [Ex] at e;cases e;rw [← hHn];exact upd_same
      · rw [Ed] at e;cases e;rw [← hHn,upd_ne hdx];exact upd_same
    have nE:∀ b u,H' b=some u→En b=none:=fun b u e=>by
      cases y:En b with
      | none=>rfl
      | some w =>
        rcases Eg b w y with rfl | rfl
        · rw [nx] at e;cases e
        · rw [ndx] at e;cases e
    have Edis:∀ b u,En b=some u→F' b=none:=fun b u e=>by
      cases y:F' b with
      | none=>rfl
      | some w=>rw [nE b w (gr.sub b w y)] at e;cases e
    have hnl:=hn _ _ _ _ (allB_get e2 x)
    refine ⟨by rw [List.length_cons,q.length];exact hnl,F',En,x,⟨[],[],none⟩,us,qs,t,rfl,gr.sub.trans sH,sE,Edis,⟨dx,x,[],Ex,Ed,hdx,rfl,trivial,.nil⟩,q,allB_get e2 x,fun H2 F2 E2 G hp=>⟨rfl,?_⟩⟩
    have T1:=(T0.same sH).setFz j (p := .opq x) (v := .ref x) (by unfold Rep;rfl)
    have db:∀ b u,En b=some u→B b=none:=fun b u e=>by
      cases y:B b with
      | none=>rfl
      | some w=>rw [nE b w (T0.base b w y)] at e;cases e
    have T2:SR X.K (orH B En) F₀ F' (σ.set j (some (.ref x))) Hn ((PM.frz ms γ).set j (.fz (.opq x))):=by
      refine ⟨T1.sub,fun b u e => ?_,T1.f0,fun b u e => ?_,T1.len,T1.fz,fun i ys e => ?_,T1.dj⟩
      · rcases orH_get e with z | ⟨_,z⟩
        · exact T1.base b u z
        · exact sE b u z
      · exact (T1.fb b u e).imp id fun z=>orH_of z (nE b u (gr.sub b u e))
      · refine xq fun _ kq=>?_
        refine x2_5 (T1.ow i ys e) fun d ts k1 k2 k3 k4 k5 => ?_
        apply kq
        refine ⟨d,ts,k1,k2,k3,k4,orH_of k5 ?_⟩
        have hij:j≠i:=fun z=>by
          subst z
          rw [List.getElem?_set_self hj'] at e;cases e
        rw [List.getElem?_set_ne hij] at e
        refine xq fun _ kq=>?_
        refine x2_3 (T0.ow i ys e) fun d2 ts2 l1 l2 _ => ?_
        apply kq
        rw [List.getElem?_set_ne hij] at k1
        rw [l1] at k1
        cases k1
        exact nE _ _ l2
    have hat:opqAt ((PM.frz ms γ).set j (.fz (.opq x))) j=some x:=by
      unfold opqAt
      rw [List.getElem?_set_self hj']
    exact ⟨B,F₀,F2,E2,x,_,t,.rt r,SX.called T2 hat db G hp,allB_get e3 x,ok⟩
  | _=>cases e
noncomputable def okM (km m:Str) (t:OT):Bool := !t.ks.contains m && !(m==km)
theorem hasM_obj {K:PySem.W.Frag} {m:Str}:HasM (ObjG K C km) C m (okM km m):=fun F E a t hok hq9=>x3_6 hq9 fun dx b vs h1 h2 h3 h4 h5 h6=>by
  unfold okM at hok
  rw [Bool.and_eq_true,Bool.not_eq_true',Bool.not_eq_true'] at hok
  refine ⟨dx,_,h1,?_⟩
  have key:∀ (ks:List Str) (vs:List V) (tl:List (Str×V)),ks.contains m=false→tl.lookup m=none→(ks.zip vs++tl).lookup m=none:=by
    intro ks
    induction ks with
    | nil=>intro vs tl _ h;simpa using h
    | cons k ks ih =>
      intro vs tl hc h
      rw [List.contains_cons,Bool.or_eq_false_iff] at hc
      cases vs with
      | nil=>simpa using h
      | cons v vs =>
        simp only [List.zip_cons_cons,List.cons_append,List.lookup_cons,hc.1]
        exact ih vs tl hc.2 h
  refine key _ _ _ hok.1 ?_
  cases t.mv with
  | none=>rfl
  | some n=>simp only [lastF,List.lookup_cons,hok.2,List.lookup_nil]
end
end L2.PM

set_option Elab.async false
set_option linter.all false
set_option maxRecDepth 100000
noncomputable section
namespace L2.PM
open PySem PySem.Spec PyProof.Rows
section
variable {τ:Type} {X:Cx} {K:PySem.W.Frag} {P:Hp→Hp→Addr→τ→Prop} {j:Nat} {ms:List Nat} {pos:Pos}
theorem SX.up {B F₀ F F1 E H:Hp} {a:Addr} {σ:St} {γ:PEnv} {t:τ} (S:SX K P j B F₀ F E a σ H γ t) (e1:Same F₀ F1) (e:Same F1 F):SX K P j B F1 F E a σ H γ t:=⟨S.sr.up e1 e,S.at_,S.own,S.db,S.df⟩
theorem SX.down {B F₀ F F1 E H:Hp} {a:Addr} {σ:St} {γ:PEnv} {t:τ} (S:SX K P j B F1 F E a σ H γ t) (e1:Same F₀ F1) (fb1:∀ b o,F1 b=some o→F₀ b=some o∨(B b=none∧E b=none)):SX K P j B F₀ F E a σ H γ t :=
  ⟨S.sr.down e1 fun b o e=>(fb1 b o e).imp id fun z=>orH_of z.1 z.2,S.at_,S.own,S.db,S.df⟩
noncomputable def xFor (j:Nat) (ms:List Nat) (mi:PEnv→Option (List PV)) (g:PV→PEnv→Option PEnv) (b:MX τ):MX τ:=fun γ t=>(mi γ).bind fun xs=>forX j g b xs (frz ms γ) t
end
end L2.PM

set_option Elab.async false
set_option linter.all false
set_option maxRecDepth 100000
noncomputable section
namespace L2.PM
open PySem PySem.Spec PyProof.Rows
noncomputable def CalMt (P:Program) (w:World) (K:PySem.W.Frag) (mg:Str→Option Value) (base:Heap) (k:Nat) (C:Addr) (m:Str) (n:Nat) (g:List PV→Option PV):Prop :=
  ∃ f fd ps,FnOk P w K mg base CX0 k f fd ps (spM K n g)∧Cls K C∧Meth K C m f∧Binds K fd ps []
noncomputable def CalX (P:Program) (w:World) (K:PySem.W.Frag) (mg:Str→Option Value) (base:Heap) (k:Nat) (C:Addr) (km m:Str) (n:Nat) (g:Addr→List PV→OT→Option OT):Prop :=
  ∃ f fd ps,FnOk P w K mg base CX0 k f fd ps (spX K (ObjG K C km) n g)∧Cls K C∧Meth K C m f∧Binds K fd ps []
noncomputable def CalMk (P:Program) (w:World) (K:PySem.W.Frag) (mg:Str→Option Value) (base:Heap) (k:Nat) (C:Addr) (km x:Str) (n:Nat) (g:Addr→List PV→OT→Option OT):Prop :=
  ∃ f fd ps,FnOk P w K mg base CX0 k f fd ps (spX K (ObjG K C km) n g)∧Mk K C f∧mg x=some (.ref C)∧Binds K fd ps []
noncomputable def CFld (K:PySem.W.Frag) (C:Addr) (f:Str):Prop:=Cls K C∧NoAttr K C f
theorem runX_len {τ:Type} {N n:Nat} {m:MX τ}:∀ a qs t t',runX N n m a qs t=some t'→qs.length + 1=n:=fun a qs t t' h=>by
  unfold runX at h
  by_cases c:qs.length + 1=n
  · exact c
  · rw [if_neg c] at h;cases h
noncomputable def trueOn:List PV→Option PV:=fun qs=>open Classical in if ∃ ns:List Int,ns.length≤63∧qs=[.lst (ns.map .int)] then some (.bl true) else none
theorem trueOn_ok (ns:List Int) (h:ns.length≤63):trueOn [.lst (ns.map .int)]=some (.bl true):=if_pos ⟨ns,h,rfl⟩
theorem trueOn_get {g:List PV→Option PV} (h:∀ ns:List Int,ns.length≤63→g [.lst (ns.map .int)]=some (.bl true)) {qs:List PV} {r:PV} (e:trueOn qs=some r):g qs=some r:=by
  unfold trueOn at e
  split at e
  · rename_i q
    refine x1_2 (q) fun ns hn zq1 => ?_
    obtain rfl:=zq1
    cases e
    exact h ns hn
  · cases e
section
variable {X:Cx} {o e:Expr} {es:List Expr} {sts:List Stmt} {ms ns:List Nat} {m mo:MEx} {ma:PEnv→Option (List PV)} {C:Addr} {f mm km x y:Str} {p p1 p2 p3 pos apos cpos:Pos} {k n j:Nat}
theorem em_mtd {pl:Sem Bool} {g:List PV→Option PV} (h:EM X ms o mo) (c:CalMt X.prog X.w X.K X.mg X.base k C mm n g) (hn:∀ ps r,g ps=some r→ps.length=n) (hr:Room k X.A)
    (ha:AM X ns (e :: es) ma) (hst:starEach (e :: es) X.env=(false,eval e X.env) :: starEach es X.env:=by rfl) (hpl:(backTo pos (starEach es X.env)).any (·.1)=false:=by rfl)
    (ht:eval (.Call (.Attribute o mm apos) (e :: es) [] pos) X.env=(do
      let ov ← eval o X.env
      standAt apos.atName
      let (f,first) ← holding [ov] (getMethod ov mm pl)
      callWith pos f first (backTo pos (starEach (e :: es) X.env)) (backToKw pos (keywordEach [] X.env))):=by rfl) :
    EM X (ms++ns) (.Call (.Attribute o mm apos) (e :: es) [] pos) (mMeth C mm g mo ma):=by
  refine xq fun _ kq=>?_
  refine x3_4 (c) fun f fd ps F hc hm hb => ?_
  apply kq
  exact em_meth h hc hm F hn hr hb ha hst hpl ht
theorem em_mtd0 {pl:Sem Bool} {g:List PV→Option PV} (h:EM X ms o mo) (c:CalMt X.prog X.w X.K X.mg X.base k C mm n g) (hn:∀ ps r,g ps=some r→ps.length=n) (hr:Room k X.A)
    (ht:eval (.Call (.Attribute o mm apos) [] [] pos) X.env=(do
      let ov ← eval o X.env
      standAt apos.atName
      let (f,first) ← holding [ov] (getMethod ov mm pl)
      callWith pos f first (backTo pos (starEach [] X.env)) (backToKw pos (keywordEach [] X.env))):=by rfl) :
    EM X ms (.Call (.Attribute o mm apos) [] [] pos) (mMeth C mm g mo aNil):=by
  refine xq fun _ kq=>?_
  refine x3_4 (c) fun f fd ps F hc hm hb => ?_
  apply kq
  exact em_meth0 h hc hm F hn hr hb ht
theorem em_fl (h:EM X ms o mo) (c:CFld X.K C f) (hb:attributeBase o f X.env (eval o X.env)=eval o X.env:=by rfl):EM X ms (.Attribute o f pos) (mFld C f mo):=em_fld h c.1 c.2 hb
theorem xm_mt {pl:Sem Bool} {g:Addr→List PV→OT→Option OT} (hx:PE X (.Name x p2) (tVar j)) (c:CalX X.prog X.w X.K X.mg X.base k C km mm n g) (hn:∀ a qs t t',g a qs t=some t'→qs.length + 1=n) (hr:Room k X.A)
    (ha:AM X ms (e :: es) ma) (hst:starEach (e :: es) X.env=(false,eval e X.env) :: starEach es X.env:=by rfl) (hpl:(backTo cpos (starEach es X.env)).any (·.1)=false:=by rfl)
    (ht:eval (.Call (.Attribute (.Name x p2) mm apos) (e :: es) [] cpos) X.env=(do
      let ov ← eval (.Name x p2) X.env
      standAt apos.atName
      let (f,first) ← holding [ov] (getMethod ov mm pl)
      callWith cpos f first (backTo cpos (starEach (e :: es) X.env)) (backToKw cpos (keywordEach [] X.env))):=by rfl)
    (hs:swapsWith (.Call (.Attribute (.Name x p2) mm apos) (e :: es) [] cpos) none pos.line X.env=pure false:=by rfl) :
    XM X (ObjG X.K C km) j (.Expr (.Call (.Attribute (.Name x p2) mm apos) (e :: es) [] cpos) pos) (xMeth j ms (okM km mm) g ma):=by
  refine xq fun _ kq=>?_
  refine x3_4 (c) fun f fd ps F hc hm hb => ?_
  apply kq
  exact xm_meth (objG_mono X.K C km) hasM_obj hn (ps_expr (pe_meth (E:=E0) hx hc hm F hr hb .nil pass0 ha hst hpl ht) hs)
theorem ss_mk {g:Addr→List PV→OT→Option OT} {mx:MX OT} (hN:X.N.Nodup) (hi:X.N[j]?=some y) (hx:Loc X.env.scope y) (c:CalMk X.prog X.w X.K X.mg X.base k C km x n g) (hn:∀ a qs t t',g a qs t=some t'→qs.length + 1=n) (hr:Room (k + 1) X.A) (hg:Gl X x)
    (ha:AM X ms (e :: es) ma) (hb:XMs X (ObjG X.K C km) j sts mx) (hdb:(x==("__debug__":Str))=false:=by decide) (he:starEach (e :: es) X.env=(false,eval e X.env) :: starEach es X.env:=by rfl) (hpl:(backTo cpos (starEach es X.env)).any (·.1)=false:=by rfl)
    (hs:swapsWith (.Call (.Name x p) (e :: es) [] cpos) (some (.Name y p2)) pos.line X.env=pure false:=by rfl) (hf:X.fn y=true∨X.env.scope.names.lookup y=some .local:=by first | exact .inl rfl | exact .inr rfl | assumption) :
    SMs X (.Assign [.Name y p2] (.Call (.Name x p) (e :: es) [] cpos) pos :: sts) (sMake j ms ma g mx):=by
  refine xq fun _ kq=>?_
  refine x3_4 (c) fun f fd ps F M hm hbd => ?_
  apply kq
  exact ss_make hn (ps_set hN hi hx (pe_make (E:=E0) M F hr hg hm hbd .nil pass0 ha hdb he hpl) hs hf) hb
theorem xm_fs (hx:PE X (.Name x p3) (tVar j)) (c:CFld X.K C f) (h:EM X ms e m) (hs:swapsWith e (some (.Attribute (.Name x p3) f p2)) pos.line X.env=pure false:=by rfl):XM X (ObjG X.K C km) j (.Assign [.Attribute (.Name x p3) f p2] e pos) (xFset ms f m) :=
  xm_fset c.1 c.2 (ps_fld hx h hs)
theorem xm_fn {mo:PEnv→Option (List PV)} (hx:PE X (.Name x p3) (tVar j)) (c:CFld X.K C km) (h:EO X ms e mo) (hs:swapsWith e (some (.Attribute (.Name x p3) km p2)) pos.line X.env=pure false:=by rfl):XM X (ObjG X.K C km) j (.Assign [.Attribute (.Name x p3) km p2] e pos) (xFnew ms km mo) :=
  xm_fnew c.1 c.2 (ps_fld hx h hs)
theorem xm_fa (hx:PE X (.Name x p3) (tVar j)) (c:CFld X.K C km) (ps:PS X (.Expr (.Call (.Attribute (.Attribute (.Name x p3) km p2) "append" apos) [e] [] cpos) pos) (tDrop (tBM X.K "list" rAppend (tFld X.K (tVar j) km) (tMA X.K ms (aCons m aNil))))):XM X (ObjG X.K C km) j (.Expr (.Call (.Attribute (.Attribute (.Name x p3) km p2) "append" apos) [e] [] cpos) pos) (xFapp ms km m) :=
  xm_fapp c.1 c.2 ps
end
end L2.PM

set_option Elab.async false
set_option linter.all false
set_option maxRecDepth 100000
noncomputable section
namespace L2.PM
open PySem PySem.Spec PyProof.Rows
noncomputable def maxI:List Int→Option Int
  | []=>none
  | n :: ns=>some (ns.foldl max n)
noncomputable def pMaxL:List PV→Option PV
  | [.lst xs]=>(ints? xs).bind fun ns=>(maxI ns).map .int
  | _=>none
theorem foldl_max (ns:List Int):∀ n:Int,(ns.foldl max n=n∨ns.foldl max n∈ns)∧n≤ns.foldl max n∧∀ a∈ns,a≤ns.foldl max n:=by
  induction ns with
  | nil=>intro n;simp
  | cons x xs ih =>
    intro n
    refine x0_3 (ih (max n x)) fun h1 h2 h3 => ?_
    rw [List.foldl_cons]
    refine ⟨?_,by omega,fun a ha => ?_⟩
    · rcases h1 with h | h
      · rw [h]
        rcases (by omega:max n x=n∨max n x=x) with e | e
        · exact .inl e
        · exact .inr (by rw [e];simp)
      · exact .inr (by simp [h])
    · rcases List.mem_cons.mp ha with rfl | h
      · omega
      · exact h3 a h
theorem maxI_spec {ns:List Int} {M:Int} (h:maxI ns=some M):M∈ns∧∀ a∈ns,a≤M:=by
  cases ns with
  | nil=>cases h
  | cons n ns =>
    refine x0_3 (foldl_max ns n) fun h1 h2 h3 => ?_
    have e:ns.foldl max n=M:=by unfold maxI at h;exact Option.some.inj h
    rw [e] at h1 h2 h3
    refine ⟨?_,fun a ha => ?_⟩
    · rcases h1 with h | h
      · rw [h];simp
      · simp [h]
    · rcases List.mem_cons.mp ha with rfl | h
      · exact h2
      · exact h3 a h
end L2.PM
namespace L2.PM
open PySem PySem.Spec PyProof.Rows
section
variable {X:Cx}
theorem call_maxI (hc:X.calm=true):CallR X (.builtin "max") (fun vs H Q=>∃ (a:Addr) (ns:List Int) (M:Int),vs=[.ref a]∧SqL X.K H a (ns.map V.int)∧maxI ns=some M∧Q (.int M) H):=by
  intro pins s σ H vs us Q I rs h
  refine xq fun _ kq=>?_
  refine x3_4 (h) fun a ns M zq1 h2 hM h3 => ?_
  obtain rfl:=zq1
  refine x1_2 (vals1 rs) fun u zq1 ru => ?_
  obtain rfl:=zq1
  apply kq
  cases ru
  refine xq fun _ kq=>?_
  refine x1_3 (I.list h2) fun its r pl _ => ?_
  refine x1_2 (intItems_of (intsAre_of r)) fun xs e1 e2 => ?_
  apply kq
  have hl:=pl.isList
  rw [e1] at hl
  obtain ⟨m1,m2⟩:=maxI_spec hM
  have hsz:0 < xs.size:=by
    have h4:0 < ns.length:=List.length_pos_of_mem m1
    rw [← e2,List.length_map,Array.length_toList] at h4
    exact h4
  refine max_intList (I.ok.hd hc) hl hsz fun v h' tk hv hk => ?_
  obtain ⟨t,rfl⟩:=intItems_at hv
  obtain ⟨k1,k2⟩:=argBest_gt (numAt xs) (xs.size - 1)
  have e:numAt xs (argBest (fun i j=>decide (numAt xs i > numAt xs j)) (xs.size - 1))=M:=by
    have a1:numAt xs (argBest (fun i j=>decide (numAt xs i > numAt xs j)) (xs.size - 1))∈ns:=by
      rw [← e2,numAt_eq];exact getD_mem (by rw [List.length_map,Array.length_toList];omega)
    have a2:∀ a,a∈ns→a≤numAt xs (argBest (fun i j=>decide (numAt xs i > numAt xs j)) (xs.size - 1)):=fun a ha=>by
      rw [← e2] at ha
      refine x1_2 (mem_getD ha) fun j hj zq1 => ?_
      obtain rfl:=zq1
      rw [List.length_map,Array.length_toList] at hj
      rw [← numAt_eq];exact k2 j (by omega)
    have:=m2 _ a1
    have:=a2 _ m1
    omega
  rw [e]
  exact ⟨.int M,H,I.kept (t':=tk) hk,⟨t,rfl⟩,h3⟩
theorem cm_maxL (hc:X.calm=true):CallM X (.builtin "max") pMaxL:=by
  intro pins s σ H vs us Q I rs h
  refine xq fun _ kq=>?_
  obtain ⟨F,ps,r,h1,h2,h3,w⟩:=h
  apply kq
  refine call_maxI hc pins s σ H vs us Q I rs ?_
  unfold pMaxL at h3
  split at h3
  · rename_i xs
    refine xq fun _ kq=>?_
    obtain ⟨ns,e1,h3⟩:=bind_get h3
    obtain ⟨M,eM,rfl⟩:=map_get h3
    apply kq
    have e2:=ints?_get e1
    subst e2
    unfold RepL at h2
    refine xq fun _ kq=>?_
    obtain ⟨v,t,rfl,h2,ht⟩:=h2
    apply kq
    unfold RepL at ht
    subst ht
    unfold Rep at h2
    refine xq fun _ kq=>?_
    obtain ⟨a,us,rfl,k2,k3⟩:=h2
    apply kq
    have e3:=repL_ints k3
    subst e3
    exact ⟨a,ns,M,rfl,h1.seq k2,eM,w.here h1 (rep_int _)⟩
  · cases h3
end
end L2.PM

set_option Elab.async false
set_option linter.all false
set_option maxRecDepth 100000
noncomputable section
namespace L2.PM
open PySem PySem.Spec PyProof.Rows
noncomputable def famC (l:List Addr) (i:Nat):Addr:=l.getD i 0
noncomputable def mkK (C:Addr) (t:OT):Option PV:=match t.mv with
  | none=>some (.obj C t.ks t.ps)
  | some _=>none
noncomputable def mNew (C:Addr) (g:Addr→List PV→OT→Option OT) (ma:PEnv→Option (List PV)):MEx:=fun γ=>(ma γ).bind fun qs=>(allB fun a=>g a qs ⟨[],[],none⟩).bind (mkK C)
noncomputable def fldS (Cs:List Addr) (f:Str):PV→Option PV
  | .obj D ks ps=>if Cs.contains D=true then (ks.zip ps).lookup f else none
  | _=>none
noncomputable def mFldS (Cs:List Addr) (f:Str) (m:MEx):MEx:=fun γ=>(m γ).bind (fldS Cs f)
noncomputable def famK (tab:List (Addr×(List PV→Option PV))) (f:Str):PV→Option (List PV→Option PV)
  | .obj D ks _=>if ks.contains f=false then tab.lookup D else none
  | _=>none
noncomputable def mMethS (tab:List (Addr×(List PV→Option PV))) (f:Str) (m:MEx) (ma:PEnv→Option (List PV)):MEx:=fun γ=>(m γ).bind fun q=>(famK tab f q).bind fun g=>(ma γ).bind fun ps=>g (q :: ps)
noncomputable def isiS (tab:List (Addr×Bool)):PV→Option PV
  | .obj D _ _=>(tab.lookup D).map .bl
  | _=>none
noncomputable def mIsiS (tab:List (Addr×Bool)) (m:MEx):MEx:=fun γ=>(m γ).bind (isiS tab)
noncomputable def baseK (g:Addr→List PV→OT→Option OT) (a:Addr) (t:OT):List PV→Option OT
  | .opq b :: rs=>if b=a then g a rs t else none
  | _=>none
noncomputable def xBase (j:Nat) (ms:List Nat) (g:Addr→List PV→OT→Option OT) (ma:PEnv→Option (List PV)):MX OT:=fun γ t=>(ma γ).bind fun qs=>(opqAt γ j).bind fun a=>(baseK g a t qs).map fun t' => .nx (frz ms γ) t'
end L2.PM
namespace L2.PM
open PySem PySem.Spec PyProof.Rows
noncomputable def CalR (X:Cx) (C:Addr) (m:Str) (n:Nat) (g:List PV→Option PV):Prop:=∃ k,CalMt X.prog X.w X.K X.mg X.base k C m n g∧Room k X.A
structure IsiC (K:PySem.W.Frag) (T C:Addr) (b:Bool):Prop where
  cl:Cls K C
  ha:PySem.W.findIn K (.ref C) "__class__"=some (some (.builtin "object.__class__"))
  hn:PySem.W.specialIn K (.builtin "object.__class__") "__get__"=some (some (.builtin "getset_descriptor.__get__"))
  htk:PySem.W.takesIn K (.builtin "object.__class__")=some true
  hm:PySem.W.mroIn K C (.type "object")=some true
  one:PySem.W.kitOne K (.ref C) (.ref T)=some b
noncomputable def CalB (P:Program) (w:World) (K:PySem.W.Frag) (mg:Str→Option Value) (base:Heap) (k:Nat) (C:Addr) (km x m:Str) (n:Nat) (g:Addr→List PV→OT→Option OT):Prop :=
  ∃ f fd ps B,FnOk P w K mg base CX0 k f fd ps (spX K (ObjG K C km) n g)∧mg x=some (.ref B)∧PySem.W.specialIn K (.ref B) "__getattribute__"=some (some (.builtin "type.__getattribute__"))∧PySem.W.readsIn K B (.type "type")=true ∧
    PySem.W.findCls K (.ref B) (.type "type") m=some (.val (.ref f))∧PySem.W.keepIn K (.ref f)=true∧Binds K fd ps []
section
variable {X:Cx} {o e:Expr} {es:List Expr} {sts:List Stmt} {ms ns:List Nat} {m mo:MEx} {ma:PEnv→Option (List PV)} {C:Addr} {f mm km x y:Str} {p p1 p2 p3 pos apos cpos:Pos} {k n j:Nat}
noncomputable def tMethS (X:Cx) (m:Str) (ta:TE) (t:TA):TE:=fun σ H Q=>ta σ H fun x H1=>∃ a C dx fs f fd ps sp k,x = .ref a∧H1 a=some (.ins C dx fs)∧fs.lookup m=none∧Cls X.K C∧Meth X.K C m f∧FnOk X.prog X.w X.K X.mg X.base CX0 k f fd ps sp∧Room k X.A∧Binds X.K fd ps [] ∧
  t σ H1 fun vs H2=>sp (.ref a :: (vs++[])) H2 Q E0
end
end L2.PM

set_option Elab.async false
set_option linter.all false
set_option maxRecDepth 100000
noncomputable section
namespace L2.PM
open PySem PySem.Spec PyProof.Rows
noncomputable def pZipTT:List PV→Option (List PV)
  | [.tup xs,.tup ys]=>some (List.zipWith (fun x y => .tup [x,y]) xs ys)
  | _=>none
end L2.PM
namespace L2.PM
open PySem PySem.Spec PyProof.Rows
noncomputable abbrev ht1 (h:Heap) (a:Addr):Heap:=h.push { cls := .type "tuple_iterator",data := .fields #[.ref a,.int 0 0] }
noncomputable abbrev ht2 (h:Heap) (a c:Addr):Heap:=(ht1 h a).push { cls := .type "tuple_iterator",data := .fields #[.ref c,.int 0 0] }
noncomputable abbrev ht3 (h:Heap) (a c:Addr):Heap:=(ht2 h a c).push { cls := .type "tuple",data := .seq #[.ref h.objs.size,.ref (ht1 h a).objs.size] }
noncomputable abbrev ht4 (h:Heap) (a c:Addr):Heap:=(ht3 h a c).push { cls := .type "tuple",data := .seq #[.none,.none] }
noncomputable abbrev ht5 (h:Heap) (a c:Addr):Heap:=(ht4 h a c).push { cls := .type "zip",data := .fields #[.none,.bool false,.bool false,.ref (ht2 h a c).objs.size,.ref (ht3 h a c).objs.size] }
noncomputable def Itzt (K:PySem.W.Frag) (a c:Addr):It :=
  ⟨fun i H=>∃ xs ys x y,SqT K H a xs∧SqT K H c ys∧xs[i]?=some x∧ys[i]?=some y,
   fun i H v H'=>∃ T x y,v = .ref T∧H T=none∧H'=upd H T (.tup [x,y])∧(∀ xs,SqT K H a xs→xs[i]?=some x)∧∀ ys,SqT K H c ys→ys[i]?=some y,
   fun i H=>(∃ xs ys,SqT K H a xs∧SqT K H c ys∧xs.length≤i)∨∃ xs ys,SqT K H a xs∧SqT K H c ys∧i < xs.length∧ys.length≤i⟩
section
variable {X:Cx} {e a b c:Expr} {es:List Expr} {ms ns ls:List Nat} {m m1 m2 m3:MEx} {ma:PEnv→Option (List PV)} {pos p p1 p2 p3 pos':Pos} {x:Str} {id T:String} {tg:Expr}
end
end L2.PM

set_option Elab.async false
set_option linter.all false
set_option maxRecDepth 100000
noncomputable section
namespace L2.PM
open PySem PySem.Spec PyProof.Rows

theorem cMul_right {i j:Int} (h1 : -(2 ^ 64) < j) (h2:j < 2 ^ 64):cMul i j=true:=by
  unfold cMul
  rw [Bool.or_eq_true]
  exact .inr (cls_of ⟨h1,h2⟩)
theorem cMul_left {i j:Int} (h1 : -(2 ^ 64) < i) (h2:i < 2 ^ 64):cMul i j=true:=by
  unfold cMul
  rw [Bool.or_eq_true]
  exact .inl (cls_of ⟨h1,h2⟩)
theorem pAdd_i (i j:Int):pAdd (.int i) (.int j)=some (.int (i + j)):=rfl
theorem pSub_i (i j:Int):pSub (.int i) (.int j)=some (.int (i - j)):=rfl
theorem pMul_l {i j:Int} (h1 : -(2 ^ 64) < i) (h2:i < 2 ^ 64):pMul (.int i) (.int j)=some (.int (i * j)):=if_pos (cMul_left h1 h2)
theorem pMul_r {i j:Int} (h1 : -(2 ^ 64) < j) (h2:j < 2 ^ 64):pMul (.int i) (.int j)=some (.int (i * j)):=if_pos (cMul_right h1 h2)
theorem pMod_i {i j:Int} (h:0 < j):pMod (.int i) (.int j)=some (.int (i % j)):=if_pos (decide_eq_true h)
theorem pDiv_i {i j:Int} (h:0 < j) (h2:j < 2 ^ 200):pDiv (.int i) (.int j)=some (.int (i / j)):=if_pos (cls_of ⟨h,h2⟩)
theorem pLt_i (i j:Int):pLt (.int i) (.int j)=some (.bl (decide (i < j))):=rfl
theorem pLe_i (i j:Int):pLe (.int i) (.int j)=some (.bl (decide (i≤j))):=rfl
theorem pGt_i (i j:Int):pGt (.int i) (.int j)=some (.bl (decide (j < i))):=rfl
theorem pGe_i (i j:Int):pGe (.int i) (.int j)=some (.bl (decide (j≤i))):=rfl
theorem pAnd_i (i j:Int):pAnd (.int i) (.int j)=some (.int (Builtin.bitAnd i j)):=rfl
theorem pOr_i (i j:Int):pOr (.int i) (.int j)=some (.int (Builtin.bitOr i j)):=rfl
theorem pShl_one {k:Int} (h0:0≤k) (h1:k≤1000000):pShl (.int 1) (.int k)=some (.int (2 ^ k.toNat)):=by
  have e:pShl (.int 1) (.int k)=some (.int (1 * 2 ^ k.toNat)):=if_pos (cls_of ⟨h0,h1,by decide⟩)
  rw [e,Int.one_mul]
theorem pShr_i {i k:Int} (h0:0≤k):pShr (.int i) (.int k)=some (.int (i / 2 ^ k.toNat)):=if_pos (decide_eq_true h0)
theorem okv_int (i:Int):okv (.int i)=true:=by simp [okv,dep,okS]
theorem okv_str {s:Str} (h:PyData.strOk s=true):okv (.str s)=true:=by simp [okv,dep,okS,h]
theorem pEq_ok {p q:PV} (h1:okv p=true) (h2:okv q=true):pEq p q=some (.bl (peq p q)):=if_pos ⟨h1,h2⟩
theorem pNe_ok {p q:PV} (h1:okv p=true) (h2:okv q=true):pNe p q=some (.bl (!peq p q)):=if_pos ⟨h1,h2⟩
theorem pEq_i (i j:Int):pEq (.int i) (.int j)=some (.bl (i==j)):=by rw [pEq_ok (okv_int i) (okv_int j)];simp [peq]
theorem pNe_i (i j:Int):pNe (.int i) (.int j)=some (.bl (!(i==j))):=by rw [pNe_ok (okv_int i) (okv_int j)];simp [peq]
theorem pIs_non (p:PV):pIs p .non=some (.bl (isN p)):=by cases p <;> rfl
theorem pIsNot_non (p:PV):pIsNot p .non=some (.bl (!isN p)):=by cases p <;> rfl
theorem le_lim {n:Nat} (h:n≤100000):n≤LIM:=Nat.le_trans h (by decide)
theorem lt_lim {n:Nat} (h:n≤100000):n < LIM:=Nat.lt_of_le_of_lt h (by decide)
theorem keepE_true (ms:List Nat) (γ:PEnv):keepE true ms γ=γ:=rfl
theorem keepE_false (ms:List Nat) (γ:PEnv):keepE false ms γ=frz ms γ:=rfl
theorem flat_int (i:Int):flat (.int i)=true:=rfl
theorem flat_bl (i:Bool):flat (.bl i)=true:=rfl
theorem flat_str (i:Str):flat (.str i)=true:=rfl
theorem flat_non:flat .non=true:=rfl
theorem flat_tup (i:List PV):flat (.tup i)=false:=rfl
theorem flat_lst (i:List PV):flat (.lst i)=false:=rfl
theorem allflat_ints (ns:List Int):(ns.map PV.int).all flat=true:=by simp [flat]
theorem allflat_strs (ns:List Str):(ns.map PV.str).all flat=true:=by simp [flat]
theorem pIx_lst (xs:List PV) (i:Int):pIx (.lst xs) (.int i)=atI xs i:=rfl
theorem pIx_tup (xs:List PV) (i:Int):pIx (.tup xs) (.int i)=atI xs i:=rfl

theorem compL_eq {α:Type} {g:PV→PEnv→Option PEnv} {t:PEnv→Option Bool} {e:MEx} {γ:PEnv} (f:α→PV) (b:α→Bool) (y:α→PV) :
    ∀ (xs:List α),(∀ x∈xs,∃ γ1,g (f x) γ=some γ1∧t γ1=some (b x)∧(b x=true→e γ1=some (y x)))→compL g t e γ (xs.map f)=some ((xs.filter b).map y)
  | [],_=>rfl
  | x :: xs,h=>by
    refine xq fun _ kq=>?_
    refine x1_3 (h x List.mem_cons_self) fun γ1 h1 h2 h3 => ?_
    apply kq
    have ih:=compL_eq f b y xs fun z hz=>h z (List.mem_cons_of_mem _ hz)
    rw [List.map_cons,compL,h1,Option.bind_some,h2,Option.bind_some]
    cases hb:b x with
    | true =>
      rw [if_pos rfl,h3 hb,Option.bind_some,ih,List.filter_cons_of_pos hb]
      rfl
    | false =>
      rw [if_neg Bool.false_ne_true,ih,List.filter_cons_of_neg (by simp [hb])]
theorem compL_all {α:Type} {g:PV→PEnv→Option PEnv} {e:MEx} {γ:PEnv} (f:α→PV) (y:α→PV) (xs:List α) (h:∀ x∈xs,∃ γ1,g (f x) γ=some γ1∧e γ1=some (y x)):compL g tYesM e γ (xs.map f)=some (xs.map y):=by
  have:=compL_eq (g:=g) (t:=tYesM) (e:=e) (γ:=γ) f (fun _=>true) y xs fun x hx=>by
    refine x1_2 (h x hx) fun γ1 h1 h2 => ?_
    exact ⟨γ1,h1,rfl,fun _=>h2⟩
  rw [this,List.filter_eq_self.mpr (fun _ _=>rfl)]
theorem forL_rel {α β:Type} {g:PV→PEnv→Option PEnv} {b:MSt} (f:α→PV) (step:β→α→β) (R:β→PEnv→Prop) :
    ∀ (xs:List α) (acc:β) (γ:PEnv),R acc γ→(∀ acc γ x,x∈xs→R acc γ→∃ γ1 γ2,g (f x) γ=some γ1∧b γ1=some (.nx γ2)∧R (step acc x) γ2)→∃ γ',forL g b (xs.map f) γ=some (.nx γ')∧R (xs.foldl step acc) γ'
  | [],acc,γ,r,_=>⟨γ,rfl,r⟩
  | x :: xs,acc,γ,r,h=>by
    refine xq fun _ kq=>?_
    refine x2_3 (h acc γ x List.mem_cons_self r) fun γ1 γ2 h1 h2 h3 => ?_
    refine x1_2 (forL_rel f step R xs (step acc x) γ2 h3 fun a γ z hz=>h a γ z (List.mem_cons_of_mem _ hz)) fun γ' e r' => ?_
    apply kq
    refine ⟨γ',?_,r'⟩
    rw [List.map_cons,forL,h1,Option.bind_some,h2,Option.bind_some]
    exact e
theorem forL_pre {α:Type} {g:PV→PEnv→Option PEnv} {b:MSt} (f:α→PV) (R:List α→PEnv→Prop) (xs:List α) :
    ∀ (ys pre:List α) (γ:PEnv),pre++ys=xs→R pre γ→(∀ pre x post γ,pre++x :: post=xs→R pre γ→∃ γ1 γ2,g (f x) γ=some γ1∧b γ1=some (.nx γ2)∧R (pre++[x]) γ2)→∃ γ',forL g b (ys.map f) γ=some (.nx γ')∧R xs γ'
  | [],pre,γ,e,r,_=>by
    rw [List.append_nil] at e
    subst e
    exact ⟨γ,rfl,r⟩
  | x :: ys,pre,γ,e,r,h=>by
    refine xq fun _ kq=>?_
    refine x2_3 (h pre x ys γ e r) fun γ1 γ2 h1 h2 h3 => ?_
    apply kq
    obtain ⟨γ',e',r'⟩:=forL_pre f R xs ys (pre++[x]) γ2 (by rw [List.append_assoc];exact e) h3 h
    refine ⟨γ',?_,r'⟩
    rw [List.map_cons,forL,h1,Option.bind_some,h2,Option.bind_some]
    exact e'
end L2.PM

set_option Elab.async false
set_option linter.all false
set_option maxRecDepth 100000
noncomputable section
namespace L2.PM
open PySem PySem.Spec PyProof.Rows
noncomputable def pw (row:List Nat):Nat:=(row.map fun i=>2 ^ i).sum
noncomputable def bitsN (m:Nat):Nat:=if m=0 then 0 else m.log2 + 1
noncomputable def plN (m:Nat):List Nat:=(List.range (bitsN m)).filter fun k=>m.testBit k
theorem testBit_bits {m k:Nat} (h:m.testBit k=true):k < bitsN m:=by
  have h1:2 ^ k≤m:=Nat.ge_two_pow_of_testBit h
  have h0:m≠0:=by
    rintro rfl
    simp at h
  unfold bitsN
  rw [if_neg h0]
  have:=(Nat.le_log2 h0).mpr h1
  omega
theorem mem_plN {m k:Nat}:k∈plN m↔m.testBit k=true:=by
  unfold plN
  rw [List.mem_filter,List.mem_range]
  exact ⟨fun h=>h.2,fun h=>⟨testBit_bits h,h⟩⟩
theorem pw_lt:∀ (row:List Nat) (y:Nat),row.Pairwise (· < ·)→(∀ x∈row,x < y)→pw row < 2 ^ y:=by
  intro row
  -- from the end
  have key:∀ (n:Nat) (row:List Nat) (y:Nat),row.length=n→row.Pairwise (· < ·)→(∀ x∈row,x < y)→pw row < 2 ^ y:=by
    intro n
    induction n with
    | zero =>
      intro row y hl _ _
      rw [List.length_eq_zero_iff.mp hl]
      exact Nat.two_pow_pos y
    | succ n ih =>
      intro row y hl hp hy
      obtain ⟨xs,z,rfl⟩:∃ xs z,row=xs++[z]:=by
        have hne:row≠[]:=by intro e;rw [e] at hl;simp at hl
        exact ⟨row.dropLast,row.getLast hne,(List.dropLast_concat_getLast hne).symm⟩
      rw [List.pairwise_append] at hp
      have h1:=ih xs z (by simpa using hl) hp.1 fun x hx=>hp.2.2 x hx z (by simp)
      have hz:z < y:=hy z (by simp)
      have e:pw (xs++[z])=pw xs + 2 ^ z:=by simp [pw]
      rw [e]
      have h2:2 ^ (z + 1)≤2 ^ y:=Nat.pow_le_pow_right (by decide) hz
      rw [Nat.pow_succ] at h2
      omega
  exact fun y=>key row.length row y rfl
theorem testBit_pw:∀ (row:List Nat) (k:Nat),row.Pairwise (· < ·)→((pw row).testBit k=true↔k∈row):=by
  have key:∀ (n:Nat) (row:List Nat) (k:Nat),row.length=n→row.Pairwise (· < ·)→((pw row).testBit k=true↔k∈row):=by
    intro n
    induction n with
    | zero =>
      intro row k hl _
      rw [List.length_eq_zero_iff.mp hl]
      simp [pw]
    | succ n ih =>
      intro row k hl hp
      obtain ⟨xs,z,rfl⟩:∃ xs z,row=xs++[z]:=by
        have hne:row≠[]:=by intro e;rw [e] at hl;simp at hl
        exact ⟨row.dropLast,row.getLast hne,(List.dropLast_concat_getLast hne).symm⟩
      rw [List.pairwise_append] at hp
      have hlt:∀ x∈xs,x < z:=fun x hx=>hp.2.2 x hx z (by simp)
      have ih':=ih xs k (by simpa using hl) hp.1
      have e:pw (xs++[z])=2 ^ z + pw xs:=by simp [pw];omega
      have hs:=pw_lt xs z hp.1 hlt
      rw [e]
      rcases Nat.lt_trichotomy k z with h | h | h
      · rw [Nat.testBit_two_pow_add_gt h,ih']
        simp
        intro hk;omega
      · subst h
        rw [Nat.testBit_two_pow_add_eq,Nat.testBit_lt_two_pow hs]
        simp
      · have:2 ^ z + pw xs < 2 ^ k:=by
          have h2:2 ^ (z + 1)≤2 ^ k:=Nat.pow_le_pow_right (by decide) h
          rw [Nat.pow_succ] at h2
          omega
        rw [Nat.testBit_lt_two_pow this]
        simp
        exact ⟨fun hk=>by have:=hlt k hk;omega,by omega⟩
  exact fun row k=>key row.length row k rfl
theorem intBits_nat (m:Nat):Builtin.Int.intBits (m:Int)=bitsN m:=by
  unfold Builtin.Int.intBits bitsN
  by_cases h:m=0
  · subst h;rfl
  · rw [if_neg h,if_neg (by simpa using h)]
    simp
theorem pBits_nat (m:Nat):pBits (.int (m:Int)) []=some (.int (bitsN m:Nat)):=by
  have e:=intBits_nat m
  show some (PV.int ((Builtin.Int.intBits (m:Int):Nat):Int))=_
  rw [e]
end L2.PM

set_option Elab.async false
set_option linter.all false
set_option maxRecDepth 100000
noncomputable section
namespace L2.PM
open PySem PySem.Spec PyProof.Rows

theorem rngL_0 (j:Int):rngL 0 j=(List.range j.toNat).map fun (k:Nat)=>PV.int k:=by
  unfold rngL
  rw [show (j - 0)=j by omega]
  exact List.map_congr_left fun k _=>by simp
noncomputable def rngN (j:Int):List PV:=(List.range j.toNat).map fun (k:Nat)=>PV.int k
noncomputable def rg1:PV→Option (List PV)
  | .int j=>if rOk j=true then some (rngL 0 j) else none
  | _=>none
theorem rg1_i {j:Int} (h1 : -100000≤j) (h2:j≤100000):rg1 (.int j)=some ((List.range j.toNat).map fun (k:Nat)=>PV.int k):=by
  have e:rg1 (.int j)=if rOk j=true then some (rngL 0 j) else none:=rfl
  rw [e,if_pos (rOk_of (by omega) (by omega)),rngL_0]
theorem ev_iRg1 (m:MEx) (γ:PEnv):iRg1 m γ=(m γ).bind rg1:=by
  unfold iRg1
  cases m γ with
  | none=>rfl
  | some p=>cases p <;> rfl
noncomputable def rg2:PV→PV→Option (List PV)
  | .int i,.int j=>if rOk i=true∧rOk j=true then some (rngL i j) else none
  | _,_=>none
noncomputable def oRg:PV→Option (List PV)
  | .int j=>if rOk j=true∧j.toNat≤LIM then some (rngL 0 j) else none
  | _=>none
theorem oRg_i {j:Int} (h1 : -100000≤j) (h2:j≤100000):oRg (.int j)=some ((List.range j.toNat).map fun (k:Nat)=>PV.int k):=by
  have e:oRg (.int j)=if rOk j=true∧j.toNat≤LIM then some (rngL 0 j) else none:=rfl
  rw [e,if_pos ⟨rOk_of (by omega) (by omega),le_lim (by omega)⟩,rngL_0]
noncomputable def itL:PV→Option (List PV)
  | .lst xs=>some xs
  | _=>none
theorem itL_l (xs:List PV):itL (.lst xs)=some xs:=rfl
theorem ev_iLst (m:MEx) (γ:PEnv):iLst m γ=(m γ).bind itL:=by
  unfold iLst
  cases m γ with
  | none=>rfl
  | some p=>cases p <;> rfl
noncomputable def itT:PV→Option (List PV)
  | .tup xs=>some xs
  | _=>none
theorem itT_t (xs:List PV):itT (.tup xs)=some xs:=rfl
theorem ev_iTpl (m:MEx) (γ:PEnv):iTpl m γ=(m γ).bind itT:=by
  unfold iTpl
  cases m γ with
  | none=>rfl
  | some p=>cases p <;> rfl
noncomputable def itS:PV→Option (List PV)
  | .lst xs=>some xs
  | .tup xs=>some xs
  | _=>none
theorem itS_l (xs:List PV):itS (.lst xs)=some xs:=rfl
theorem itS_t (xs:List PV):itS (.tup xs)=some xs:=rfl
theorem ev_iSeq (m:MEx) (γ:PEnv):iSeq m γ=(m γ).bind itS:=by
  unfold iSeq
  cases m γ with
  | none=>rfl
  | some p=>cases p <;> rfl
theorem pEnum_l (xs:List PV):pEnumL [.lst xs]=some (xs.zipIdx.map fun x => .tup [pN x.2,x.1]):=rfl
theorem pEnum_t (xs:List PV):pEnumT [.tup xs]=some (xs.zipIdx.map fun x => .tup [pN x.2,x.1]):=rfl
noncomputable def cmpK (g:PV→PEnv→Option PEnv) (t:PEnv→Option Bool) (e:MEx) (γ:PEnv) (xs:List PV):Option (List PV):=if xs.length≤LIM then compL g t e γ xs else none
theorem cmpK_ok {g:PV→PEnv→Option PEnv} {t:PEnv→Option Bool} {e:MEx} {γ:PEnv} {xs:List PV} (h:xs.length≤100000):cmpK g t e γ xs=compL g t e γ xs:=if_pos (le_lim h)
theorem ev_mComp (mi:PEnv→Option (List PV)) (nt:Nat) (caps:List Nat) (g:PV→PEnv→Option PEnv) (t:PEnv→Option Bool) (e:MEx) (γ:PEnv):mComp mi nt caps g t e γ=(mi γ).bind (cmpK g t e (blkG nt caps γ)):=rfl
noncomputable def seqK (s2:MSt):Out→Option Out
  | .nx γ=>s2 γ
  | o=>some o
theorem seqK_nx (s2:MSt) (γ:PEnv):seqK s2 (.nx γ)=s2 γ:=rfl
theorem seqK_rt (s2:MSt) (p:PV):seqK s2 (.rt p)=some (.rt p):=rfl
theorem seqK_ro (s2:MSt) (p:List PV):seqK s2 (.ro p)=some (.ro p):=rfl
theorem seqK_ct (s2:MSt) (γ:PEnv):seqK s2 (.ct γ)=some (.ct γ):=rfl
theorem seqK_bk (s2:MSt) (γ:PEnv):seqK s2 (.bk γ)=some (.bk γ):=rfl
theorem ev_sSeq (s1 s2:MSt) (γ:PEnv):sSeq s1 s2 γ=(s1 γ).bind (seqK s2):=by
  unfold sSeq
  cases s1 γ with
  | none=>rfl
  | some o=>cases o <;> rfl
theorem ev_startG1 (N:Nat) (ps:List PV):startG N ps=ps.map .fz++List.replicate (N - ps.length) .un:=rfl
theorem outV_rt (p:PV):outV (.rt p)=some p:=rfl
theorem outV_ro (xs:List PV):outV (.ro xs)=some (.lst xs):=rfl
theorem outV_nx (γ:PEnv):outV (.nx γ)=some .non:=rfl
theorem ev_bin2 {α:Type} (f:PV→PV→Option α) (m1 m2:MEx) (γ:PEnv):bin2 f m1 m2 γ=(m1 γ).bind fun x=>(m2 γ).bind (f x):=rfl
theorem ev_mVar (i:Nat) (γ:PEnv):mVar i γ=getV γ i:=rfl
theorem ev_mC (p:PV) (γ:PEnv):mC p γ=some p:=rfl
theorem ev_mCall {α:Type} (g:List PV→Option α) (ma:PEnv→Option (List PV)) (γ:PEnv):mCall g ma γ=(ma γ).bind g:=rfl
theorem ev_mLst (m:PEnv→Option (List PV)) (γ:PEnv):mLst m γ=(m γ).map PV.lst:=rfl
noncomputable def tupK (xs:List PV):Option PV:=if xs.length≤LIM then some (.tup xs) else none
theorem tupK_ok {xs:List PV} (h:xs.length≤100000):tupK xs=some (.tup xs):=if_pos (le_lim h)
theorem ev_mTup (m:PEnv→Option (List PV)) (γ:PEnv):mTup m γ=(m γ).bind tupK:=rfl
noncomputable def limK (xs:List PV):Option (List PV):=if xs.length≤LIM then some xs else none
theorem limK_ok {xs:List PV} (h:xs.length≤100000):limK xs=some xs:=if_pos (le_lim h)
theorem ev_mLim (m:PEnv→Option (List PV)) (γ:PEnv):mLim m γ=(m γ).bind limK:=rfl
theorem ev_aNil (γ:PEnv):aNil γ=some []:=rfl
theorem ev_aCons (m:MEx) (ma:PEnv→Option (List PV)) (γ:PEnv):aCons m ma γ=(m γ).bind fun x=>(ma γ).map (x :: ·):=rfl
theorem isB_bl (b:Bool):isB (.bl b)=some b:=rfl
theorem ev_truB (m:MEx) (γ:PEnv):truB m γ=(m γ).bind isB:=rfl
theorem ev_mIsi (f:PV→Bool) (m:MEx) (γ:PEnv):mIsi f m γ=(m γ).bind (isiK f):=rfl
theorem isiK_i (f:PV→Bool) (i:Int):isiK f (.int i)=some (.bl (f (.int i))):=rfl
theorem isiK_b (f:PV→Bool) (i:Bool):isiK f (.bl i)=some (.bl (f (.bl i))):=rfl
theorem isiK_s (f:PV→Bool) (i:Str):isiK f (.str i)=some (.bl (f (.str i))):=rfl
theorem isiK_t (f:PV→Bool) (i:List PV):isiK f (.tup i)=some (.bl (f (.tup i))):=rfl
theorem isiK_l (f:PV→Bool) (i:List PV):isiK f (.lst i)=some (.bl (f (.lst i))):=rfl
theorem isiK_0 (f:PV→Bool):isiK f .non=some (.bl (f .non)):=rfl
theorem isiK_n (f:PV→Bool) (i:Nat):isiK f (pN i)=some (.bl (f (pN i))):=rfl
theorem getV_0 (s:Slot) (γ:PEnv):getV (s :: γ) 0=s.val:=rfl
theorem getV_s (s:Slot) (γ:PEnv) (i:Nat):getV (s :: γ) (i + 1)=getV γ i:=rfl
theorem val_fz (p:PV):(Slot.fz p).val=some p:=rfl
theorem val_ow (p:List PV):(Slot.ow p).val=some (.lst p):=rfl
noncomputable def keep (k:Bool) (ms:List Nat) (γ:PEnv):PEnv:=keepE k ms γ
theorem ev_sRet (m:MEx) (γ:PEnv):sRet m γ=(m γ).map .rt:=rfl
theorem ev_sRetO (m:PEnv→Option (List PV)) (γ:PEnv):sRetO m γ=(m γ).map .ro:=rfl
noncomputable def retS:Option Slot→Option Out
  | some (.ow xs)=>some (.ro xs)
  | some (.fz p)=>some (.rt p)
  | _=>none
theorem retS_ow (xs:List PV):retS (some (.ow xs))=some (.ro xs):=rfl
theorem retS_fz (p:PV):retS (some (.fz p))=some (.rt p):=rfl
theorem ev_sRetV (i:Nat) (γ:PEnv):sRetV i γ=retS γ[i]?:=by
  unfold sRetV
  cases γ[i]? with
  | none=>rfl
  | some s=>cases s <;> rfl
noncomputable def ifK (s1 s2:MSt) (γ:PEnv) (k:Bool):Option Out:=if k=true then s1 γ else s2 γ
theorem ifK_t (s1 s2:MSt) (γ:PEnv):ifK s1 s2 γ true=s1 γ:=rfl
theorem ifK_f (s1 s2:MSt) (γ:PEnv):ifK s1 s2 γ false=s2 γ:=rfl
theorem ev_sIf (t:PEnv→Option Bool) (s1 s2:MSt) (γ:PEnv):sIf t s1 s2 γ=(t γ).bind (ifK s1 s2 γ):=rfl
theorem ev_sNx (γ:PEnv):sNx γ=some (.nx γ):=rfl
theorem ev_sBk (γ:PEnv):sBk γ=some (.bk γ):=rfl
theorem ev_sCt (γ:PEnv):sCt γ=some (.ct γ):=rfl
theorem ev_sSet (ms:List Nat) (i:Nat) (m:MEx) (γ:PEnv):sSet ms i m γ=(m γ).map fun r => .nx ((keepE (flat r) ms γ).set i (.fz r)):=rfl
theorem ev_sSetO (ms:List Nat) (i:Nat) (m:PEnv→Option (List PV)) (γ:PEnv):sSetO ms i m γ=(m γ).map fun xs => .nx ((keepE (xs.all flat) ms γ).set i (.ow xs)):=rfl
noncomputable def augK (i:Nat) (γ:PEnv) (r:PV):Option Out:=if flat r=true then some (.nx (γ.set i (.fz r))) else none
theorem augK_i (i:Nat) (γ:PEnv) (r:Int):augK i γ (.int r)=some (.nx (γ.set i (.fz (.int r)))):=rfl
theorem ev_sAug (i:Nat) (f:PV→PV→Option PV) (m:MEx) (γ:PEnv):sAug i f m γ=(getV γ i).bind fun x=>(m γ).bind fun y=>(f x y).bind (augK i γ):=rfl
theorem ev_gSet (i:Nat) (p:PV) (γ:PEnv):gSet i p γ=some (γ.set i (.fz p)):=rfl
theorem gSet2_t (i j:Nat) (x y:PV) (γ:PEnv):gSet2 i j (.tup [x,y]) γ=some ((γ.set i (.fz x)).set j (.fz y)):=rfl
theorem gSet3_t (i j k:Nat) (x y z:PV) (γ:PEnv):gSet3 i j k (.tup [x,y,z]) γ=some (((γ.set i (.fz x)).set j (.fz y)).set k (.fz z)):=rfl
noncomputable def appK (ms:List Nat) (i:Nat) (γ:PEnv) (r:PV):Option Slot→Option Out
  | some (.ow xs)=>if xs.length < LIM∧(flat r || !ms.contains i)=true then some (.nx ((keepE (flat r) ms γ).set i (.ow (xs++[r])))) else none
  | _=>none
theorem appK_ow {ms:List Nat} {i:Nat} {γ:PEnv} {r:PV} {xs:List PV} (h:xs.length≤100000) (h2:(flat r || !ms.contains i)=true):appK ms i γ r (some (.ow xs))=some (.nx ((keepE (flat r) ms γ).set i (.ow (xs++[r])))):=if_pos ⟨lt_lim h,h2⟩
theorem ev_sApp (ms:List Nat) (i:Nat) (m:MEx) (γ:PEnv):sApp ms i m γ=(m γ).bind fun r=>appK ms i γ r γ[i]?:=by
  unfold sApp
  cases γ[i]? with
  | none=>cases m γ <;> rfl
  | some s =>
    cases s with
    | ow xs=>rfl
    | _=>cases m γ <;> rfl
noncomputable def sixK (ms:List Nat) (i:Nat) (γ:PEnv) (r k:PV):Option Slot→Option Out
  | some (.ow xs)=>match k with
    | .int j=>(ixN xs.length j).bind fun n=>if (flat r || !ms.contains i)=true then some (.nx ((keepE (flat r) ms γ).set i (.ow (xs.set n r)))) else none
    | _=>none
  | _=>none
theorem sixK_ow {ms:List Nat} {i:Nat} {γ:PEnv} {r:PV} {xs:List PV} {j:Int} (h0:0≤j) (h1:j < xs.length) (h2:(flat r || !ms.contains i)=true):sixK ms i γ r (.int j) (some (.ow xs))=some (.nx ((keepE (flat r) ms γ).set i (.ow (xs.set j.toNat r)))):=by
  show ((ixN xs.length j).bind fun n=>if (flat r || !ms.contains i)=true then some (Out.nx ((keepE (flat r) ms γ).set i (.ow (xs.set n r)))) else none)=_
  unfold ixN
  rw [if_pos h0,if_pos h1,Option.bind_some,if_pos h2]
theorem ev_sSetIx (ms:List Nat) (i:Nat) (mv mi:MEx) (γ:PEnv):sSetIx ms i mv mi γ=(mv γ).bind fun r=>(mi γ).bind fun k=>sixK ms i γ r k γ[i]?:=by
  unfold sSetIx
  cases γ[i]? with
  | none=>cases mv γ <;> cases mi γ <;> rfl
  | some s =>
    cases s with
    | ow xs =>
      cases mv γ with
      | none=>rfl
      | some r =>
        cases mi γ with
        | none=>rfl
        | some k=>cases k <;> rfl
    | _=>cases mv γ <;> cases mi γ <;> rfl
theorem ev_sFor (ms:List Nat) (mi:PEnv→Option (List PV)) (g:PV→PEnv→Option PEnv) (b:MSt) (γ:PEnv):sFor ms mi g b γ=(mi γ).bind fun xs=>forL g b xs (frz ms γ):=rfl
theorem ev_sForR (mi:PEnv→Option (List PV)) (g:PV→PEnv→Option PEnv) (b:MSt) (γ:PEnv):sForR mi g b γ=(mi γ).bind fun xs=>forL g b xs γ:=rfl
noncomputable def capO:Option PV→Slot
  | some p => .fz p
  | none => .un
theorem capO_s (p:PV):capO (some p) = .fz p:=rfl
theorem ev_capS (γ:PEnv) (j:Nat):capS γ j=capO (getV γ j):=by
  unfold capS
  cases getV γ j <;> rfl
theorem ev_blkG (nt:Nat) (caps:List Nat) (γ:PEnv):blkG nt caps γ=List.replicate nt .un++caps.map (capS γ):=rfl
theorem ev_tYesM (γ:PEnv):tYesM γ=some true:=rfl
theorem ev_mTru (m:MEx) (γ:PEnv):mTru m γ=(m γ).bind tru:=rfl
theorem tru_i (i:Int):tru (.int i)=some (i != 0):=rfl
theorem tru_b (i:Bool):tru (.bl i)=some i:=rfl
theorem tru_l (i:List PV):tru (.lst i)=some (!i.isEmpty):=rfl
theorem tru_t (i:List PV):tru (.tup i)=some (!i.isEmpty):=rfl
noncomputable def andK (t2:PEnv→Option Bool) (γ:PEnv) (x:Bool):Option Bool:=if x=true then t2 γ else some false
theorem andK_t (t2:PEnv→Option Bool) (γ:PEnv):andK t2 γ true=t2 γ:=rfl
theorem andK_f (t2:PEnv→Option Bool) (γ:PEnv):andK t2 γ false=some false:=rfl
theorem ev_bAnd (t1 t2:PEnv→Option Bool) (γ:PEnv):bAnd t1 t2 γ=(t1 γ).bind (andK t2 γ):=rfl
noncomputable def orK (t2:PEnv→Option Bool) (γ:PEnv) (x:Bool):Option Bool:=if x=true then some true else t2 γ
theorem orK_t (t2:PEnv→Option Bool) (γ:PEnv):orK t2 γ true=some true:=rfl
theorem orK_f (t2:PEnv→Option Bool) (γ:PEnv):orK t2 γ false=t2 γ:=rfl
theorem ev_bOr (t1 t2:PEnv→Option Bool) (γ:PEnv):bOr t1 t2 γ=(t1 γ).bind (orK t2 γ):=rfl
theorem ev_bNot (t1:PEnv→Option Bool) (γ:PEnv):bNot t1 γ=(t1 γ).map not:=rfl
noncomputable def vAndK (m2:MEx) (γ:PEnv) (k:Bool):Option PV:=if k=true then m2 γ else some (.bl false)
noncomputable def vOrK (m2:MEx) (γ:PEnv) (k:Bool):Option PV:=if k=true then some (.bl true) else m2 γ
noncomputable def ifEK (m1 m2:MEx) (γ:PEnv) (k:Bool):Option PV:=if k=true then m1 γ else m2 γ
theorem ifEK_t (m1 m2:MEx) (γ:PEnv):ifEK m1 m2 γ true=m1 γ:=rfl
theorem ifEK_f (m1 m2:MEx) (γ:PEnv):ifEK m1 m2 γ false=m2 γ:=rfl
theorem ev_mIfE (t:PEnv→Option Bool) (m1 m2:MEx) (γ:PEnv):mIfE t m1 m2 γ=(t γ).bind (ifEK m1 m2 γ):=rfl
noncomputable def chK (g:PV→PV→Option PV) (m3:MEx) (γ:PEnv) (y:PV) (k:Bool):Option PV:=if k=true then (m3 γ).bind fun w=>g y w else some (.bl false)
theorem ev_un1 (f:PV→Option PV) (m:MEx) (γ:PEnv):un1 f m γ=(m γ).bind f:=rfl
noncomputable def mtK {α:Type} (T:String) (g:PV→List PV→Option α) (q:Option (List PV)) (p:PV):Option α:=if tyOk T p=true then q.bind (g p) else none
theorem mtK_i {α:Type} (g:PV→List PV→Option α) (q:Option (List PV)) (i:Int):mtK "int" g q (.int i)=q.bind (g (.int i)):=rfl
theorem mtK_s {α:Type} (g:PV→List PV→Option α) (q:Option (List PV)) (i:Str):mtK "str" g q (.str i)=q.bind (g (.str i)):=rfl
theorem mtK_l {α:Type} (g:PV→List PV→Option α) (q:Option (List PV)) (i:List PV):mtK "list" g q (.lst i)=q.bind (g (.lst i)):=rfl
theorem ev_mMt {α:Type} (T:String) (g:PV→List PV→Option α) (m:MEx) (ma:PEnv→Option (List PV)) (γ:PEnv):mMt T g m ma γ=(m γ).bind (mtK T g (ma γ)):=rfl
theorem ev_mMt0 {α:Type} (T:String) (g:PV→List PV→Option α) (m:MEx) (γ:PEnv):mMt0 T g m γ=(m γ).bind (mtK T g (some [])):=rfl
theorem ev_sl3 {α:Type} (f:PV→Option Int→Option Int→Option α) (m:MEx) (ml mh:PEnv→Option (Option Int)) (γ:PEnv):sl3 f m ml mh γ=(m γ).bind fun x=>(ml γ).bind fun l=>(mh γ).bind (f x l):=rfl
theorem ev_mNo (γ:PEnv):mNo γ=some none:=rfl
theorem ev_mSo (m:MEx) (γ:PEnv):mSo m γ=(m γ).bind pInt:=rfl
theorem pInt_i (i:Int):pInt (.int i)=some (some i):=rfl
theorem pCut_l (xs:List PV) (lo hi:Option Int):pCut (.lst xs) lo hi=some (cutP xs lo hi):=rfl
theorem pTuple_l (xs:List PV):pTuple [.lst xs]=some (.tup xs):=rfl
theorem pTuple_t (xs:List PV):pTuple [.tup xs]=some (.tup xs):=rfl
theorem pMin_i (i j:Int):pMin [.int i,.int j]=some (.int (if j < i then j else i)):=rfl
theorem pMax_i (i j:Int):pMax [.int i,.int j]=some (.int (if j > i then j else i)):=rfl
theorem pSum_i (ns:List Int):pSum [.lst (ns.map .int)]=some (.int ns.sum):=by
  show (ints? (ns.map .int)).map (fun ns=>PV.int ns.sum)=_
  rw [ints?_map];rfl
theorem pAdd_s {a b:Str} (h:a.length + b.length≤100000):pAdd (.str a) (.str b)=some (.str (a++b)):=if_pos (le_lim h)
theorem pCat_l {a b:List PV} (h:a.length + b.length≤100000):pCat (.lst a) (.lst b)=some (a++b):=if_pos (le_lim h)
theorem tru_bit (b:Bool):(((if b=true then 1 else 0):Int) != 0)=b:=by cases b <;> rfl
theorem isInt_i (i:Int):isInt (.int i)=true:=rfl
theorem isBl_i (i:Int):isBl (.int i)=false:=rfl
theorem isBl_b (i:Bool):isBl (.bl i)=true:=rfl
theorem isStr_s (i:Str):isStr (.str i)=true:=rfl
theorem isTup_t (i:List PV):isTup (.tup i)=true:=rfl
theorem isTup_l (i:List PV):isTup (.lst i)=false:=rfl
theorem isLst_l (i:List PV):isLst (.lst i)=true:=rfl
theorem isN_i (i:Int):isN (.int i)=false:=rfl
theorem isN_n:isN .non=true:=rfl
theorem isN_t (i:List PV):isN (.tup i)=false:=rfl
theorem forL_nx {g:PV→PEnv→Option PEnv} {b:MSt} {x:PV} {xs:List PV} {γ γ1 γ2:PEnv} (h1:g x γ=some γ1) (h2:b γ1=some (.nx γ2)):forL g b (x :: xs) γ=forL g b xs γ2:=by
  rw [forL,h1,Option.bind_some,h2,Option.bind_some]
theorem forL_nil (g:PV→PEnv→Option PEnv) (b:MSt) (γ:PEnv):forL g b [] γ=some (.nx γ):=rfl
theorem runV_0 {N:Nat} {m:MSt}:runV N 0 m []=(m (startG N [])).bind outV:=rfl
theorem runV_1 {N:Nat} {m:MSt} {a0:PV}:runV N 1 m [a0]=(m (startG N [a0])).bind outV:=rfl
theorem runV_2 {N:Nat} {m:MSt} {a0 a1:PV}:runV N 2 m [a0,a1]=(m (startG N [a0,a1])).bind outV:=rfl
theorem runV_3 {N:Nat} {m:MSt} {a0 a1 a2:PV}:runV N 3 m [a0,a1,a2]=(m (startG N [a0,a1,a2])).bind outV:=rfl
theorem runV_4 {N:Nat} {m:MSt} {a0 a1 a2 a3:PV}:runV N 4 m [a0,a1,a2,a3]=(m (startG N [a0,a1,a2,a3])).bind outV:=rfl
theorem runV_5 {N:Nat} {m:MSt} {a0 a1 a2 a3 a4:PV}:runV N 5 m [a0,a1,a2,a3,a4]=(m (startG N [a0,a1,a2,a3,a4])).bind outV:=rfl
theorem runV_6 {N:Nat} {m:MSt} {a0 a1 a2 a3 a4 a5:PV}:runV N 6 m [a0,a1,a2,a3,a4,a5]=(m (startG N [a0,a1,a2,a3,a4,a5])).bind outV:=rfl
theorem runV_7 {N:Nat} {m:MSt} {a0 a1 a2 a3 a4 a5 a6:PV}:runV N 7 m [a0,a1,a2,a3,a4,a5,a6]=(m (startG N [a0,a1,a2,a3,a4,a5,a6])).bind outV:=rfl
noncomputable def frzS:Slot→Slot
  | .ow xs => .fz (.lst xs)
  | s=>s
theorem frzS_ow (xs:List PV):frzS (.ow xs) = .fz (.lst xs):=rfl
theorem frzS_fz (p:PV):frzS (.fz p) = .fz p:=rfl
theorem frzS_un:frzS .un = .un:=rfl
theorem frz_nil (γ:PEnv):frz [] γ=γ:=rfl
theorem frz_cons (i:Nat) (ms:List Nat) (γ:PEnv):frz (i :: ms) γ=frz ms (frz1 γ i):=rfl
theorem frz1_0 (s:Slot) (γ:PEnv):frz1 (s :: γ) 0=frzS s :: γ:=by cases s <;> rfl
theorem frz1_s (s:Slot) (γ:PEnv) (i:Nat):frz1 (s :: γ) (i + 1)=s :: frz1 γ i:=by
  unfold frz1
  rw [List.getElem?_cons_succ]
  cases γ[i]? with
  | none=>rfl
  | some t=>cases t <;> rfl
theorem ev_mN (n:Nat) (γ:PEnv):mN n γ=some (pN n):=rfl
noncomputable def encN (xs:List Nat):List PV:=xs.map pN
theorem encN_len (xs:List Nat):(encN xs).length=xs.length:=List.length_map _
theorem flat_n (n:Nat):flat (pN n)=true:=rfl
theorem encN_flat (xs:List Nat):(encN xs).all flat=true:=by
  unfold encN
  rw [List.all_map,List.all_eq_true]
  exact fun _ _=>rfl
theorem encN_ints (xs:List Nat):encN xs=(xs.map fun (k:Nat)=>(k:Int)).map .int:=by unfold encN;rw [List.map_map];rfl
theorem encN_app (xs ys:List Nat):encN xs++encN ys=encN (xs++ys):=by unfold encN;rw [List.map_append]
theorem pAdd_n (a b:Nat):pAdd (pN a) (pN b)=some (pN (a + b)):=by
  unfold pN;rw [pAdd_i];simp
theorem pSub_n {a b:Nat} (h:b≤a):pSub (pN a) (pN b)=some (pN (a - b)):=by
  unfold pN;rw [pSub_i,Int.ofNat_sub h]
theorem pMul_ln {a b:Nat} (h:a < 2 ^ 60):pMul (pN a) (pN b)=some (pN (a * b)):=by
  unfold pN;rw [pMul_l (by omega) (by omega)];simp
theorem pMul_rn {a b:Nat} (h:b < 2 ^ 60):pMul (pN a) (pN b)=some (pN (a * b)):=by
  unfold pN;rw [pMul_r (by omega) (by omega)];simp
theorem pMod_n {a b:Nat} (h:0 < b):pMod (pN a) (pN b)=some (pN (a % b)):=by
  unfold pN;rw [pMod_i (by omega)];simp
theorem pMod_in {c:Int} {b:Nat} (h:0 < b):pMod (.int c) (pN b)=some (pN (c % (b:Int)).toNat):=by
  unfold pN;rw [pMod_i (by omega),Int.toNat_of_nonneg (Int.emod_nonneg _ (by omega))]
theorem pDiv_n {a b:Nat} (h:0 < b) (h2:b < 2 ^ 100):pDiv (pN a) (pN b)=some (pN (a / b)):=by
  unfold pN;rw [pDiv_i (by omega) (by omega)];simp
theorem pDiv_in {c:Int} {b:Nat} (h:0 < b) (h2:b < 2 ^ 100):pDiv (.int c) (pN b)=some (.int (c / (b:Int))):=by
  unfold pN;rw [pDiv_i (by omega) (by omega)]
theorem pLt_n (a b:Nat):pLt (pN a) (pN b)=some (.bl (decide (a < b))):=by
  unfold pN;rw [pLt_i];simp
theorem pGt_n (a b:Nat):pGt (pN a) (pN b)=some (.bl (decide (b < a))):=by
  unfold pN;rw [pGt_i];simp
theorem pGe_n (a b:Nat):pGe (pN a) (pN b)=some (.bl (decide (b≤a))):=by
  unfold pN;rw [pGe_i];simp
theorem beq_cast (a b:Nat):((a:Int)==(b:Int))=(a==b):=by
  rw [Bool.eq_iff_iff,beq_iff_eq,beq_iff_eq];exact Int.ofNat_inj
theorem pEq_n (a b:Nat):pEq (pN a) (pN b)=some (.bl (a==b)):=by
  unfold pN;rw [pEq_i,beq_cast]
theorem pNe_n (a b:Nat):pNe (pN a) (pN b)=some (.bl (!(a==b))):=by
  unfold pN;rw [pNe_i,beq_cast]
theorem bAnd_n (a b:Nat):Builtin.bitAnd (a:Int) (b:Int)=((a&&&b:Nat):Int):=by
  rw [bitAnd_pp (by omega) (by omega)];simp
theorem bOr_n (a b:Nat):Builtin.bitOr (a:Int) (b:Int)=((a|||b:Nat):Int):=by
  unfold Builtin.bitOr
  rw [bitAnd_nn (by unfold Builtin.bitNot;omega) (by unfold Builtin.bitNot;omega)]
  unfold Builtin.bitNot
  have e:∀ a:Nat,(-(-(a:Int) - 1) - 1).toNat=a:=fun a=>by omega
  rw [e,e]
  omega
theorem pAnd_n (a b:Nat):pAnd (pN a) (pN b)=some (pN (a&&&b)):=by unfold pN;rw [pAnd_i,bAnd_n]
theorem pOr_n (a b:Nat):pOr (pN a) (pN b)=some (pN (a|||b)):=by unfold pN;rw [pOr_i,bOr_n]
theorem pShl_n {k:Nat} (h:k≤1000000):pShl (pN 1) (pN k)=some (pN (2 ^ k)):=by
  have e:=pShl_one (k:=(k:Int)) (by omega) (by omega)
  unfold pN
  rw [show ((1:Nat):Int)=1 from rfl,e];simp
theorem pShr_n (m k:Nat):pShr (pN m) (pN k)=some (pN (m / 2 ^ k)):=by
  unfold pN;rw [pShr_i (by omega)];simp
theorem testBit_odd (m k:Nat):((m / 2 ^ k)&&&1 != 0)=m.testBit k:=by
  rw [Nat.testBit,Nat.shiftRight_eq_div_pow,Nat.and_comm]
theorem testBit_mod (m k:Nat):(m / 2 ^ k % 2==1)=m.testBit k:=by
  rw [← testBit_odd,Nat.and_one_is_mod]
  have h:m / 2 ^ k % 2=0∨m / 2 ^ k % 2=1:=by omega
  rcases h with h | h <;> rw [h] <;> rfl
theorem pLen_ln (xs:List PV):pLen [.lst xs]=some (pN xs.length):=rfl
theorem pLen_tn (xs:List PV):pLen [.tup xs]=some (pN xs.length):=rfl
theorem pLen_sn {z:Str} (h:z.length≤100000):pLen [.str z]=some (pN z.length):=if_pos (le_lim h)
theorem sum_cast (xs:List Nat):(xs.map fun (k:Nat)=>(k:Int)).sum=((xs.sum:Nat):Int):=by
  induction xs with
  | nil=>rfl
  | cons x r ih=>simp only [List.map_cons,List.sum_cons,ih,Int.natCast_add]
theorem pSum_n (xs:List Nat):pSum [.lst (encN xs)]=some (pN xs.sum):=by
  rw [encN_ints,pSum_i,sum_cast];rfl
theorem rg1_n {n:Nat} (h:n≤100000):rg1 (pN n)=some (encN (List.range n)):=by
  unfold pN;rw [rg1_i (by omega) (by omega),Int.toNat_natCast];rfl
theorem pBits_pn (m:Nat):pBits (pN m) []=some (pN (bitsN m)):=pBits_nat m
theorem mtK_n {α:Type} (g:PV→List PV→Option α) (q:Option (List PV)) (i:Nat):mtK "int" g q (pN i)=q.bind (g (pN i)):=rfl
theorem isInt_n (i:Nat):isInt (pN i)=true:=rfl
theorem isBl_n (i:Nat):isBl (pN i)=false:=rfl
theorem isTup_n (i:Nat):isTup (pN i)=false:=rfl
theorem isN_pn (i:Nat):isN (pN i)=false:=rfl
theorem tru_n (i:Nat):tru (pN i)=some (i != 0):=by
  unfold pN;rw [tru_i]
  have:=beq_cast i 0
  show some (!((i:Int)==((0:Nat):Int)))=_
  rw [this];rfl
theorem atI_last1 (xs:List PV) (v:PV):atI (xs++[v]) (-((1:Nat):Int))=some v:=atI_last xs v
theorem pInt_n (i:Nat):pInt (pN i)=some (some (i:Int)):=rfl
theorem atI_cast {α:Type} (xs:List α) (i:Nat):atI xs (i:Int)=xs[i]?:=by
  cases h:xs[i]? with
  | some v=>exact atI_nat h
  | none =>
    have:=List.getElem?_eq_none_iff.mp h
    unfold atI ixN
    rw [if_pos (by omega),if_neg (by omega)]
    rfl
theorem pIx_ln (xs:List PV) (i:Nat):pIx (.lst xs) (pN i)=xs[i]?:=atI_cast xs i
theorem pIx_tn (xs:List PV) (i:Nat):pIx (.tup xs) (pN i)=xs[i]?:=atI_cast xs i
theorem encN_get (xs:List Nat) (i:Nat):(encN xs)[i]?=(xs[i]?).map pN:=by unfold encN;rw [List.getElem?_map]
theorem augK_n (i:Nat) (γ:PEnv) (r:Nat):augK i γ (pN r)=some (.nx (γ.set i (.fz (pN r)))):=rfl
theorem sixK_n {ms:List Nat} {i:Nat} {γ:PEnv} {r:PV} {xs:List PV} {j:Nat} (h1:j < xs.length) (h2:(flat r || !ms.contains i)=true):sixK ms i γ r (pN j) (some (.ow xs))=some (.nx ((keepE (flat r) ms γ).set i (.ow (xs.set j r)))):=by
  have:=sixK_ow (ms:=ms) (i:=i) (γ:=γ) (r:=r) (xs:=xs) (j:=(j:Int)) (by omega) (by omega) h2
  rw [Int.toNat_natCast] at this
  exact this
theorem peq_pn (a b:Nat):peq (pN a) (pN b)=(a==b):=by
  unfold pN
  have:peq (.int (a:Int)) (.int (b:Int))=((a:Int)==(b:Int)):=by simp [peq]
  rw [this,beq_cast]
theorem okv_n (a:Nat):okv (pN a)=true:=okv_int _
theorem okv_encN (xs:List Nat):(encN xs).all okv=true:=by
  unfold encN
  rw [List.all_map,List.all_eq_true]
  exact fun _ _=>okv_n _
theorem any_pn (k:Nat) (xs:List Nat):((encN xs).any fun y=>peq y (pN k))=decide (k∈xs):=by
  unfold encN
  rw [List.any_map,Bool.eq_iff_iff,List.any_eq_true]
  simp [peq_pn]
theorem pIn_nl (k:Nat) (xs:List Nat):pIn (pN k) (.lst (encN xs))=some (.bl (decide (k∈xs))):=by
  have e:pIn (pN k) (.lst (encN xs))=if okv (pN k)=true∧(encN xs).all okv=true then some (.bl ((encN xs).any fun y=>peq y (pN k))) else none:=rfl
  rw [e,if_pos ⟨okv_n k,okv_encN xs⟩,any_pn]
theorem pIn_nt (k:Nat) (xs:List Nat):pIn (pN k) (.tup (encN xs))=some (.bl (decide (k∈xs))):=by
  have e:pIn (pN k) (.tup (encN xs))=if okv (pN k)=true∧(encN xs).all okv=true then some (.bl ((encN xs).any fun y=>peq y (pN k))) else none:=rfl
  rw [e,if_pos ⟨okv_n k,okv_encN xs⟩,any_pn]
theorem pNotIn_of {x y:PV} {b:Bool} (h:pIn x y=some (.bl b)):pNotIn x y=some (.bl (!b)):=by
  unfold pNotIn
  rw [h]
  rfl
theorem pNotIn_nl (k:Nat) (xs:List Nat):pNotIn (pN k) (.lst (encN xs))=some (.bl (!decide (k∈xs))):=pNotIn_of (pIn_nl k xs)
theorem pNotIn_nt (k:Nat) (xs:List Nat):pNotIn (pN k) (.tup (encN xs))=some (.bl (!decide (k∈xs))):=pNotIn_of (pIn_nt k xs)
theorem compN {α:Type} {g:PV→PEnv→Option PEnv} {t:PEnv→Option Bool} {e:MEx} {γ:PEnv} (b:Nat→Bool) (y:Nat→PV) (xs:List Nat) (h:∀ x∈xs,∃ γ1,g (pN x) γ=some γ1∧t γ1=some (b x)∧(b x=true→e γ1=some (y x))) :
    compL g t e γ (encN xs)=some ((xs.filter b).map y):=compL_eq pN b y xs h
theorem compNF {g:PV→PEnv→Option PEnv} {t:PEnv→Option Bool} {e:MEx} {γ:PEnv} (b:Nat→Bool) (xs:List Nat) (h:∀ x∈xs,∃ γ1,g (pN x) γ=some γ1∧t γ1=some (b x)∧e γ1=some (pN x)) :
    compL g t e γ (encN xs)=some (encN (xs.filter b)):=by
  rw [compN (α:=Nat) b pN xs fun x hx=>by
    refine xq fun _ kq=>?_
    refine x1_3 (h x hx) fun γ1 h1 h2 h3 => ?_
    apply kq
    exact ⟨γ1,h1,h2,fun _=>h3⟩]
  rfl
end L2.PM

set_option Elab.async false
set_option linter.all false
set_option maxRecDepth 100000
noncomputable section
namespace L2.PM
open PySem PySem.Spec PyProof.Rows

theorem cutP_map {α β:Type} (f:α→β) (xs:List α) (lo hi:Option Int):cutP (xs.map f) lo hi=(cutP xs lo hi).map f:=by
  unfold cutP
  rw [List.length_map,← List.map_drop,← List.map_take]
theorem cutP_len {α:Type} (xs:List α) (lo hi:Option Int):(cutP xs lo hi).length≤xs.length:=by
  unfold cutP
  rw [List.length_take,List.length_drop]
  omega
theorem peq_s (a b:Str):peq (.str a) (.str b)=(a==b):=by simp [peq]
theorem pEq_s {a b:Str} (ha:PyData.strOk a=true) (hb:PyData.strOk b=true):pEq (.str a) (.str b)=some (.bl (a==b)):=by rw [pEq_ok (okv_str ha) (okv_str hb),peq_s]
theorem pNe_s {a b:Str} (ha:PyData.strOk a=true) (hb:PyData.strOk b=true):pNe (.str a) (.str b)=some (.bl (!(a==b))):=by rw [pNe_ok (okv_str ha) (okv_str hb),peq_s]
theorem allflat_nats (ns:List Nat):(ns.map fun (k:Nat)=>PV.int k).all flat=true:=by simp [flat]
theorem EVc:type_of% (And.intro (And.intro (And.intro (And.intro (And.intro (And.intro (And.intro @ev_mN (And.intro @encN_len @encN_flat)) (And.intro @flat_n (And.intro @pAdd_n @pSub_n))) (And.intro (And.intro @pMul_ln (And.intro @pMul_rn @pMod_n)) (And.intro (And.intro @pMod_in @pDiv_n) (And.intro @pDiv_in @pLt_n)))) (And.intro (And.intro (And.intro @pGt_n (And.intro @pGe_n @pEq_n)) (And.intro (And.intro @pNe_n @pAnd_n) (And.intro @pOr_n @pShl_n))) (And.intro (And.intro @pShr_n (And.intro @testBit_odd @testBit_mod)) (And.intro (And.intro @pSum_n @rg1_n) (And.intro @mtK_n @isInt_n))))) (And.intro (And.intro (And.intro (And.intro @isBl_n (And.intro @isTup_n @isN_pn)) (And.intro @tru_n (And.intro @atI_last1 @pInt_n))) (And.intro (And.intro @pIx_ln (And.intro @pIx_tn @encN_get)) (And.intro (And.intro @augK_n @sixK_n) (And.intro @pIn_nl @pIn_nt)))) (And.intro (And.intro (And.intro @pNotIn_nl (And.intro @pNotIn_nt @runV_0)) (And.intro (And.intro @runV_1 @runV_2) (And.intro @runV_3 @runV_4))) (And.intro (And.intro @runV_5 (And.intro @runV_6 @runV_7)) (And.intro (And.intro @ev_startG1 @ev_sSeq) (And.intro @seqK_nx @seqK_rt)))))) (And.intro (And.intro (And.intro (And.intro (And.intro @seqK_ro (And.intro @seqK_ct @seqK_bk)) (And.intro @ev_sSet (And.intro @ev_sSetO @ev_sRet))) (And.intro (And.intro @ev_sRetO (And.intro @ev_sRetV @retS_ow)) (And.intro (And.intro @retS_fz @ev_sIf) (And.intro @ifK_t @ifK_f)))) (And.intro (And.intro (And.intro @ev_sNx (And.intro @ev_sBk @ev_sCt)) (And.intro (And.intro @ev_bin2 @ev_mVar) (And.intro @ev_mC @ev_mCall))) (And.intro (And.intro @ev_mLst (And.intro @ev_mTup @tupK_ok)) (And.intro (And.intro @ev_mLim @limK_ok) (And.intro @ev_aCons @ev_aNil))))) (And.intro (And.intro (And.intro (And.intro @ev_truB (And.intro @isB_bl @ev_mIsi)) (And.intro @isiK_i (And.intro @isiK_b @isiK_s))) (And.intro (And.intro @isiK_t (And.intro @isiK_l @isiK_0)) (And.intro (And.intro @isiK_n @getV_0) (And.intro @getV_s @val_fz)))) (And.intro (And.intro (And.intro @val_ow (And.intro @pAdd_i @pSub_i)) (And.intro (And.intro @pLt_i @pGt_i) (And.intro @pGe_i @pEq_i))) (And.intro (And.intro @pNe_i (And.intro @pLen_ln @pLen_tn)) (And.intro (And.intro @pIx_lst @pIx_tup) (And.intro @keepE_true @keepE_false))))))) (And.intro (And.intro (And.intro (And.intro (And.intro (And.intro @flat_int (And.intro @flat_bl @flat_str)) (And.intro @flat_non (And.intro @flat_tup @flat_lst))) (And.intro (And.intro @outV_rt (And.intro @outV_ro @outV_nx)) (And.intro (And.intro @ev_bAnd @andK_t) (And.intro @andK_f @ev_bOr)))) (And.intro (And.intro (And.intro @orK_t (And.intro @orK_f @ev_bNot)) (And.intro (And.intro @ev_mIfE @ifEK_t) (And.intro @ifEK_f @ev_un1))) (And.intro (And.intro @ev_mMt0 (And.intro @ev_mMt @mtK_i)) (And.intro (And.intro @mtK_s @mtK_l) (And.intro @ev_sForR @ev_sFor))))) (And.intro (And.intro (And.intro (And.intro @ev_mComp (And.intro @cmpK_ok @ev_iRg1)) (And.intro @rg1_i (And.intro @ev_iLst @itL_l))) (And.intro (And.intro @ev_iTpl (And.intro @itT_t @ev_iSeq)) (And.intro (And.intro @itS_l @itS_t) (And.intro @pEnum_l @pEnum_t)))) (And.intro (And.intro (And.intro @ev_blkG (And.intro @ev_capS @capO_s)) (And.intro (And.intro @ev_gSet @gSet2_t) (And.intro @gSet3_t @ev_mTru))) (And.intro (And.intro @tru_i (And.intro @tru_b @tru_l)) (And.intro (And.intro @tru_t @ev_tYesM) (And.intro @pMod_i @pDiv_i)))))) (And.intro (And.intro (And.intro (And.intro (And.intro @pMul_l (And.intro @pMul_r @pBits_pn)) (And.intro @tru_bit (And.intro @ev_sl3 @ev_mNo))) (And.intro (And.intro @ev_mSo (And.intro @pInt_i @pCut_l)) (And.intro (And.intro @pTuple_l @pTuple_t) (And.intro @pSum_i @pLen_sn)))) (And.intro (And.intro (And.intro @pAdd_s (And.intro @pCat_l @isInt_i)) (And.intro (And.intro @isBl_i @isBl_b) (And.intro @isStr_s @isTup_t))) (And.intro (And.intro @isTup_l (And.intro @isLst_l @isN_i)) (And.intro (And.intro @isN_n @isN_t) (And.intro @pIs_non @pIsNot_non))))) (And.intro (And.intro (And.intro (And.intro @forL_nil (And.intro @frz_nil @frz_cons)) (And.intro (And.intro @frz1_0 @frz1_s) (And.intro @frzS_ow @frzS_fz))) (And.intro (And.intro @frzS_un (And.intro @ev_sAug @augK_i)) (And.intro (And.intro @ev_sApp @ev_sSetIx) (And.intro @sixK_ow @allflat_ints)))) (And.intro (And.intro (And.intro @allflat_strs (And.intro @allflat_nats @cutP_map)) (And.intro (And.intro @Nat.not_lt_zero @decide_true) (And.intro @decide_false @Bool.not_true))) (And.intro (And.intro @Bool.not_false (And.intro @Bool.true_or @Bool.false_or)) (And.intro (And.intro @Bool.or_true @Bool.or_false) (And.intro @Bool.true_and @Bool.false_and)))))))):=(And.intro (And.intro (And.intro (And.intro (And.intro (And.intro (And.intro @ev_mN (And.intro @encN_len @encN_flat)) (And.intro @flat_n (And.intro @pAdd_n @pSub_n))) (And.intro (And.intro @pMul_ln (And.intro @pMul_rn @pMod_n)) (And.intro (And.intro @pMod_in @pDiv_n) (And.intro @pDiv_in @pLt_n)))) (And.intro (And.intro (And.intro @pGt_n (And.intro @pGe_n @pEq_n)) (And.intro (And.intro @pNe_n @pAnd_n) (And.intro @pOr_n @pShl_n))) (And.intro (And.intro @pShr_n (And.intro @testBit_odd @testBit_mod)) (And.intro (And.intro @pSum_n @rg1_n) (And.intro @mtK_n @isInt_n))))) (And.intro (And.intro (And.intro (And.intro @isBl_n (And.intro @isTup_n @isN_pn)) (And.intro @tru_n (And.intro @atI_last1 @pInt_n))) (And.intro (And.intro @pIx_ln (And.intro @pIx_tn @encN_get)) (And.intro (And.intro @augK_n @sixK_n) (And.intro @pIn_nl @pIn_nt)))) (And.intro (And.intro (And.intro @pNotIn_nl (And.intro @pNotIn_nt @runV_0)) (And.intro (And.intro @runV_1 @runV_2) (And.intro @runV_3 @runV_4))) (And.intro (And.intro @runV_5 (And.intro @runV_6 @runV_7)) (And.intro (And.intro @ev_startG1 @ev_sSeq) (And.intro @seqK_nx @seqK_rt)))))) (And.intro (And.intro (And.intro (And.intro (And.intro @seqK_ro (And.intro @seqK_ct @seqK_bk)) (And.intro @ev_sSet (And.intro @ev_sSetO @ev_sRet))) (And.intro (And.intro @ev_sRetO (And.intro @ev_sRetV @retS_ow)) (And.intro (And.intro @retS_fz @ev_sIf) (And.intro @ifK_t @ifK_f)))) (And.intro (And.intro (And.intro @ev_sNx (And.intro @ev_sBk @ev_sCt)) (And.intro (And.intro @ev_bin2 @ev_mVar) (And.intro @ev_mC @ev_mCall))) (And.intro (And.intro @ev_mLst (And.intro @ev_mTup @tupK_ok)) (And.intro (And.intro @ev_mLim @limK_ok) (And.intro @ev_aCons @ev_aNil))))) (And.intro (And.intro (And.intro (And.intro @ev_truB (And.intro @isB_bl @ev_mIsi)) (And.intro @isiK_i (And.intro @isiK_b @isiK_s))) (And.intro (And.intro @isiK_t (And.intro @isiK_l @isiK_0)) (And.intro (And.intro @isiK_n @getV_0) (And.intro @getV_s @val_fz)))) (And.intro (And.intro (And.intro @val_ow (And.intro @pAdd_i @pSub_i)) (And.intro (And.intro @pLt_i @pGt_i) (And.intro @pGe_i @pEq_i))) (And.intro (And.intro @pNe_i (And.intro @pLen_ln @pLen_tn)) (And.intro (And.intro @pIx_lst @pIx_tup) (And.intro @keepE_true @keepE_false))))))) (And.intro (And.intro (And.intro (And.intro (And.intro (And.intro @flat_int (And.intro @flat_bl @flat_str)) (And.intro @flat_non (And.intro @flat_tup @flat_lst))) (And.intro (And.intro @outV_rt (And.intro @outV_ro @outV_nx)) (And.intro (And.intro @ev_bAnd @andK_t) (And.intro @andK_f @ev_bOr)))) (And.intro (And.intro (And.intro @orK_t (And.intro @orK_f @ev_bNot)) (And.intro (And.intro @ev_mIfE @ifEK_t) (And.intro @ifEK_f @ev_un1))) (And.intro (And.intro @ev_mMt0 (And.intro @ev_mMt @mtK_i)) (And.intro (And.intro @mtK_s @mtK_l) (And.intro @ev_sForR @ev_sFor))))) (And.intro (And.intro (And.intro (And.intro @ev_mComp (And.intro @cmpK_ok @ev_iRg1)) (And.intro @rg1_i (And.intro @ev_iLst @itL_l))) (And.intro (And.intro @ev_iTpl (And.intro @itT_t @ev_iSeq)) (And.intro (And.intro @itS_l @itS_t) (And.intro @pEnum_l @pEnum_t)))) (And.intro (And.intro (And.intro @ev_blkG (And.intro @ev_capS @capO_s)) (And.intro (And.intro @ev_gSet @gSet2_t) (And.intro @gSet3_t @ev_mTru))) (And.intro (And.intro @tru_i (And.intro @tru_b @tru_l)) (And.intro (And.intro @tru_t @ev_tYesM) (And.intro @pMod_i @pDiv_i)))))) (And.intro (And.intro (And.intro (And.intro (And.intro @pMul_l (And.intro @pMul_r @pBits_pn)) (And.intro @tru_bit (And.intro @ev_sl3 @ev_mNo))) (And.intro (And.intro @ev_mSo (And.intro @pInt_i @pCut_l)) (And.intro (And.intro @pTuple_l @pTuple_t) (And.intro @pSum_i @pLen_sn)))) (And.intro (And.intro (And.intro @pAdd_s (And.intro @pCat_l @isInt_i)) (And.intro (And.intro @isBl_i @isBl_b) (And.intro @isStr_s @isTup_t))) (And.intro (And.intro @isTup_l (And.intro @isLst_l @isN_i)) (And.intro (And.intro @isN_n @isN_t) (And.intro @pIs_non @pIsNot_non))))) (And.intro (And.intro (And.intro (And.intro @forL_nil (And.intro @frz_nil @frz_cons)) (And.intro (And.intro @frz1_0 @frz1_s) (And.intro @frzS_ow @frzS_fz))) (And.intro (And.intro @frzS_un (And.intro @ev_sAug @augK_i)) (And.intro (And.intro @ev_sApp @ev_sSetIx) (And.intro @sixK_ow @allflat_ints)))) (And.intro (And.intro (And.intro @allflat_strs (And.intro @allflat_nats @cutP_map)) (And.intro (And.intro @Nat.not_lt_zero @decide_true) (And.intro @decide_false @Bool.not_true))) (And.intro (And.intro @Bool.not_false (And.intro @Bool.true_or @Bool.false_or)) (And.intro (And.intro @Bool.or_true @Bool.or_false) (And.intro @Bool.true_and @Bool.false_and))))))))
end L2.PM

set_option maxHeartbeats 4000000
noncomputable section
namespace DH
open PySem PySem.Spec PyProof.Rows L2 L2.PM
noncomputable def b1__law_shaped_2:MSt:=(sIf (bOr (bAnd (truB (bin2 pEq (mVar 0) (mN 1))) (truB (bin2 pLt (bin2 pAdd (mVar 4) (mN 2)) (mVar 2)))) (truB (bin2 pEq (mVar 0) (mN 2)))) (sSeq (sSet [1,4,4,2] 5 (mTup (aCons (bin2 pIx (mVar 1) (mVar 4)) (aCons (mTup (aCons (bin2 pMod (bin2 pAdd (mVar 4) (mN 1)) (mVar 2)) aNil)) aNil))))
  (sIf (truB (bin2 pNotIn (mVar 5) (mVar 3))) (sApp [5] 3 (mVar 5)) sNx)) sNx)
noncomputable def d__law_shaped_2:MSt:=(sSeq (sSetO [] 3 (mLim aNil))
  (sSeq (sForR (iRg1 (mVar 2)) (gSet 4) b1__law_shaped_2)
  (sRetV 3)))
noncomputable def r__law_shaped_2:List PV→Option (List PV):=runO 6 3 d__law_shaped_2
theorem r__law_shaped_2_len:∀ ps r,r__law_shaped_2 ps=some r→ps.length=3:=runO_len
noncomputable def d__law_cell_at:MSt:=(sSeq (sIf (truB (bin2 pLt (mVar 1) (mCall pLen (aCons (mVar 0) aNil)))) (sRet (bin2 pIx (mVar 0) (mVar 1))) sNx)
  (sRet (mN 0)))
noncomputable def r__law_cell_at:List PV→Option PV:=runV 2 2 d__law_cell_at
theorem r__law_cell_at_len:∀ ps r,r__law_cell_at ps=some r→ps.length=2:=runV_len
noncomputable def b1__law_rule_of_2:MSt:=(sSeq (sSet [3] 3 (bin2 pMod (bin2 pMul (mVar 3) (mN 69621)) (mN 2147483647)))
  (sApp [3,2] 6 (bin2 pMod (bin2 pDiv (mVar 3) (mN 11)) (mVar 2))))
noncomputable def d__law_rule_of_2:MSt:=(sSeq (sSet [0] 3 (bin2 pMod (bin2 pMul (bin2 pAdd (bin2 pMod (mVar 0) (mN 2147483629)) (mN 1)) (mN 48271)) (mN 2147483647)))
  (sSeq (sSet [1,3,2,1] 4 (bin2 pAdd (mVar 1) (bin2 pMod (bin2 pDiv (mVar 3) (mN 3)) (bin2 pSub (mVar 2) (mVar 1)))))
  (sSeq (sSet [3] 3 (bin2 pMod (bin2 pMul (mVar 3) (mN 16807)) (mN 2147483647)))
  (sSeq (sSet [3] 5 (bin2 pIx (mLst (mLim (aCons (mN 0) (aCons (mN 1) (aCons (mN 1) (aCons (mN 2) (aCons (mN 2) (aCons (mN 3) aNil)))))))) (bin2 pMod (bin2 pDiv (mVar 3) (mN 7)) (mN 6))))
  (sSeq (sSetO [] 6 (mLim aNil))
  (sSeq (sForR (iRg1 (mVar 5)) (gSet 7) b1__law_rule_of_2)
  (sRet (mTup (aCons (mVar 4) (aCons (mCall pTuple (aCons (mLst (mComp (iRg1 (mVar 2)) 1 [6] (gSet 0) (truB (bin2 pIn (mVar 0) (mVar 1))) (mVar 0))) aNil)) aNil))))))))))
noncomputable def r__law_rule_of_2:List PV→Option PV:=runV 8 3 d__law_rule_of_2
theorem r__law_rule_of_2_len:∀ ps r,r__law_rule_of_2 ps=some r→ps.length=3:=runV_len
noncomputable def b1__law_book_of_5:MSt:=(sSeq (sSet [5] 5 (bin2 pMod (bin2 pMul (mVar 5) (mN 48271)) (mN 2147483647)))
  (sIf (truB (bin2 pEq (mVar 4) (mN 0))) (sApp [5,2] 6 (bin2 pMod (bin2 pDiv (mVar 5) (mN 5)) (mVar 2))) (sIf (truB (bin2 pEq (mVar 4) (mN 3))) (sApp [7,5,1] 6 (bin2 pMod (bin2 pAdd (bin2 pAdd (mVar 7) (mN 1)) (bin2 pMod (bin2 pDiv (mVar 5) (mN 5)) (mN 2))) (mVar 1))) (sApp [1,7,2,1] 6 (bin2 pAdd (mVar 1) (bin2 pMod (mVar 7) (bin2 pSub (mVar 2) (mVar 1))))))))
noncomputable def b2__law_book_of_5:MSt:=(sIf (bAnd (truB (bin2 pGt (mVar 2) (mVar 1))) (truB (bin2 pLt (mCall pLen (aCons (mVar 8) aNil)) (mN 12)))) (sSeq (sSet [9,1,2] 10 (mCall r__law_rule_of_2 (aCons (mVar 9) (aCons (mVar 1) (aCons (mVar 2) aNil)))))
  (sIf (truB (bin2 pNotIn (mVar 10) (mVar 8))) (sApp [10] 8 (mVar 10)) sNx)) sNx)
noncomputable def d__law_book_of_5:MSt:=(sSeq (sSet [0] 4 (bin2 pMod (mCall r__law_cell_at (aCons (mVar 0) (aCons (mN 1) aNil))) (mN 4)))
  (sSeq (sIf (truB (bin2 pEq (mVar 2) (mVar 1))) (sSet [4] 4 (bin2 pMul (mN 3) (bin2 pMod (mVar 4) (mN 2)))) sNx)
  (sSeq (sSet [0] 5 (bin2 pMod (bin2 pMul (bin2 pAdd (bin2 pMod (bin2 pDiv (mCall r__law_cell_at (aCons (mVar 0) (aCons (mN 1) aNil))) (mN 4)) (mN 2147483629)) (mN 1)) (mN 40692)) (mN 2147483647)))
  (sSeq (sSetO [] 6 (mLim aNil))
  (sSeq (sForR (iRg1 (mVar 1)) (gSet 7) b1__law_book_of_5)
  (sSeq (sSetO [4,6,1] 8 (mCall r__law_shaped_2 (aCons (mVar 4) (aCons (mVar 6) (aCons (mVar 1) aNil)))))
  (sSeq (sFor [0,3] (iLst (mLst (sl3 pCut (mVar 0) (mSo (mN 3)) (mSo (mVar 3))))) (gSet 9) b2__law_book_of_5)
  (sRet (mTup (aCons (mVar 2) (aCons (mCall pTuple (aCons (mVar 6) aNil)) (aCons (mCall pTuple (aCons (mVar 8) aNil)) aNil))))))))))))
noncomputable def r__law_book_of_5:List PV→Option PV:=runV 11 4 d__law_book_of_5
theorem r__law_book_of_5_len:∀ ps r,r__law_book_of_5 ps=some r→ps.length=4:=runV_len
noncomputable def b1__law_yields:MSt:=(sIf (bAnd (truB (bin2 pNotIn (bin2 pIx (mVar 4) (mN 0)) (mVar 2))) (mTru (mCall pAllB (aCons (mLst (mComp (iTpl (bin2 pIx (mVar 4) (mN 1))) 1 [2] (gSet 0) tYesM (bin2 pIn (mVar 0) (mVar 1)))) aNil)))) (sSeq (sApp [4] 2 (bin2 pIx (mVar 4) (mN 0)))
  (sSet [] 3 (mC (.bl true)))) sNx)
noncomputable def b2__law_yields:MSt:=(sSeq (sSet [] 3 (mC (.bl false)))
  (sFor [0] (iTpl (bin2 pIx (mVar 0) (mN 2))) (gSet 4) b1__law_yields))
noncomputable def d__law_yields:MSt:=(sSeq (sSetO [0,1] 2 (mComp (iRg1 (bin2 pIx (mVar 0) (mN 0))) 1 [1] (gSet 0) (truB (bin2 pEq (bin2 pAnd (bin2 pShr (mVar 1) (mVar 0)) (mN 1)) (mN 1))) (mVar 0)))
  (sSeq (sSet [] 3 (mC (.bl true)))
  (sSeq (sWhile 1000 (mTru (mVar 3)) b2__law_yields)
  (sRetV 2))))
noncomputable def r__law_yields:List PV→Option PV:=runV 5 2 d__law_yields
theorem r__law_yields_len:∀ ps r,r__law_yields ps=some r→ps.length=2:=runV_len
noncomputable def d__law_defends:MSt:=(sSeq (sSet [0,1] 2 (mCall r__law_yields (aCons (mVar 0) (aCons (mVar 1) aNil))))
  (sSeq (sSet [0,0,2] 3 (mCall pSum (aCons (mLst (mComp (iRg1 (mCall pLen (aCons (bin2 pIx (mVar 0) (mN 1)) aNil))) 1 [0,2] (gSet 0) (truB (bin2 pNotIn (bin2 pIx (bin2 pIx (mVar 1) (mN 1)) (mVar 0)) (mVar 2))) (bin2 pShl (mN 1) (mVar 0)))) aNil)))
  (sSeq (sSet [0,3] 2 (mCall r__law_yields (aCons (mVar 0) (aCons (mVar 3) aNil))))
  (sRet (mCall pSum (aCons (mLst (mComp (iRg1 (mCall pLen (aCons (bin2 pIx (mVar 0) (mN 1)) aNil))) 1 [0,2] (gSet 0) (truB (bin2 pNotIn (bin2 pIx (bin2 pIx (mVar 1) (mN 1)) (mVar 0)) (mVar 2))) (bin2 pShl (mN 1) (mVar 0)))) aNil))))))
noncomputable def r__law_defends:List PV→Option PV:=runV 4 2 d__law_defends
theorem r__law_defends_len:∀ ps r,r__law_defends ps=some r→ps.length=2:=runV_len
noncomputable def b1__law_ranks:MSt:=(sIf (bAnd (truB (bin2 pEq (bin2 pIx (mVar 1) (mVar 5)) (mN 0))) (truB (bin2 pEq (bin2 pAnd (bin2 pShr (mVar 2) (mVar 5)) (mN 1)) (mN 1)))) (sSetIx [4] 1 (mVar 4) (mVar 5)) sNx)
noncomputable def b2__law_ranks:MSt:=(sSeq (sSet [3] 2 (mVar 3))
  (sSeq (sForR (iRg1 (mCall pLen (aCons (mVar 1) aNil))) (gSet 5) b1__law_ranks)
  (sSeq (sSet [4] 4 (bin2 pAdd (mVar 4) (mN 1)))
  (sSet [0,2] 3 (mCall r__law_defends (aCons (mVar 0) (aCons (mVar 2) aNil)))))))
noncomputable def d__law_ranks:MSt:=(sSeq (sSetO [0] 1 (mComp (iTpl (bin2 pIx (mVar 0) (mN 1))) 1 [] (gSet 0) tYesM (mN 0)))
  (sSeq (sSet [] 2 (mN 0))
  (sSeq (sSet [0,2] 3 (mCall r__law_defends (aCons (mVar 0) (aCons (mVar 2) aNil))))
  (sSeq (sSet [] 4 (mN 1))
  (sSeq (sWhile 1000 (truB (bin2 pNe (mVar 3) (mVar 2))) b2__law_ranks)
  (sRetV 1))))))
noncomputable def r__law_ranks:List PV→Option PV:=runV 6 1 d__law_ranks
theorem r__law_ranks_len:∀ ps r,r__law_ranks ps=some r→ps.length=1:=runV_len
noncomputable def d_all_guesses:MSt:=(sRet (bin2 pSub (bin2 pShl (mN 1) (mCall pLen (aCons (bin2 pIx (mVar 0) (mN 1)) aNil))) (mN 1)))
noncomputable def r_all_guesses:List PV→Option PV:=runV 1 1 d_all_guesses
theorem r_all_guesses_len:∀ ps r,r_all_guesses ps=some r→ps.length=1:=runV_len
noncomputable def b1_mask_of:MSt:=(sAug 1 pOr (bin2 pShl (mN 1) (mVar 2)))
noncomputable def d_mask_of:MSt:=(sSeq (sSet [] 1 (mN 0))
  (sSeq (sFor [0] (iSeq (mVar 0)) (gSet 2) b1_mask_of)
  (sRetV 1)))
noncomputable def r_mask_of:List PV→Option PV:=runV 3 1 d_mask_of
theorem r_mask_of_len:∀ ps r,r_mask_of ps=some r→ps.length=1:=runV_len
noncomputable def d_known_after:MSt:=(sRet (bin2 pOr (mVar 1) (mCall r_mask_of (aCons (mLst (mComp (iLst (mVar 2)) 1 [0] (gSet 0) tYesM (bin2 pIx (bin2 pIx (bin2 pIx (mVar 1) (mN 2)) (mVar 0)) (mN 0)))) aNil))))
noncomputable def r_known_after:List PV→Option PV:=runV 3 3 d_known_after
theorem r_known_after_len:∀ ps r,r_known_after ps=some r→ps.length=3:=runV_len
noncomputable def d_inside:MSt:=(sRet (bin2 pEq (bin2 pAnd (mVar 0) (mVar 1)) (mVar 0)))
noncomputable def r_inside:List PV→Option PV:=runV 2 2 d_inside
theorem r_inside_len:∀ ps r,r_inside ps=some r→ps.length=2:=runV_len
noncomputable def b1_bringing_steps:MSt:=(sSeq (sSet [8] 9 (bin2 pShl (mN 1) (bin2 pIx (mVar 8) (mN 0))))
  (sIf (bAnd (bNot (mTru (mCall r_inside (aCons (mVar 9) (aCons (mVar 4) aNil))))) (mTru (mCall r_inside (aCons (bin2 pIx (mVar 3) (mVar 7)) (aCons (mVar 4) aNil))))) (sSeq (sAug 4 pOr (mVar 9))
  (sSeq (sApp [7] 5 (mVar 7))
  (sSet [] 6 (mC (.bl true))))) sNx))
noncomputable def b2_bringing_steps:MSt:=(sSeq (sSet [] 6 (mC (.bl false)))
  (sFor [2] (mCall pEnumT (aCons (mVar 2) aNil)) (gSet2 7 8) b1_bringing_steps))
noncomputable def d_bringing_steps:MSt:=(sSeq (sSet [0] 2 (bin2 pIx (mVar 0) (mN 2)))
  (sSeq (sSetO [2] 3 (mComp (iTpl (mVar 2)) 1 [] (gSet 0) tYesM (mCall r_mask_of (aCons (bin2 pIx (mVar 0) (mN 1)) aNil))))
  (sSeq (sSet [1] 4 (mVar 1))
  (sSeq (sSetO [] 5 (mLim aNil))
  (sSeq (sSet [] 6 (mC (.bl true)))
  (sSeq (sWhile 1000 (mTru (mVar 6)) b2_bringing_steps)
  (sRetV 5)))))))
noncomputable def r_bringing_steps:List PV→Option PV:=runV 10 2 d_bringing_steps
theorem r_bringing_steps_len:∀ ps r,r_bringing_steps ps=some r→ps.length=2:=runV_len
noncomputable def d_yielded:MSt:=(sRet (mCall r_known_after (aCons (mVar 0) (aCons (mVar 1) (aCons (mCall r_bringing_steps (aCons (mVar 0) (aCons (mVar 1) aNil))) aNil)))))
noncomputable def r_yielded:List PV→Option PV:=runV 2 2 d_yielded
theorem r_yielded_len:∀ ps r,r_yielded ps=some r→ps.length=2:=runV_len
noncomputable def d_struck:MSt:=(sSeq (sSet [0,1] 2 (mCall r_yielded (aCons (mVar 0) (aCons (mVar 1) aNil))))
  (sRet (mCall r_mask_of (aCons (mLst (mComp (mCall pEnumT (aCons (bin2 pIx (mVar 0) (mN 1)) aNil)) 2 [2] (gSet2 0 1) (mTru (mCall r_inside (aCons (bin2 pShl (mN 1) (mVar 1)) (aCons (mVar 2) aNil)))) (mVar 0))) aNil))))
noncomputable def r_struck:List PV→Option PV:=runV 3 2 d_struck
theorem r_struck_len:∀ ps r,r_struck ps=some r→ps.length=2:=runV_len
noncomputable def d_unstruck:MSt:=(sRet (bin2 pAnd (mCall r_all_guesses (aCons (mVar 0) aNil)) (un1 pInv (mCall r_struck (aCons (mVar 0) (aCons (mVar 1) aNil))))))
noncomputable def r_unstruck:List PV→Option PV:=runV 2 2 d_unstruck
theorem r_unstruck_len:∀ ps r,r_unstruck ps=some r→ps.length=2:=runV_len
noncomputable def d_defended:MSt:=(sRet (mCall r_unstruck (aCons (mVar 0) (aCons (mCall r_unstruck (aCons (mVar 0) (aCons (mVar 1) aNil))) aNil))))
noncomputable def r_defended:List PV→Option PV:=runV 2 2 d_defended
theorem r_defended_len:∀ ps r,r_defended ps=some r→ps.length=2:=runV_len
noncomputable def b1_rounds:MSt:=(sSeq (sSet [0,1] 1 (mCall r_defended (aCons (mVar 0) (aCons (mVar 1) aNil))))
  (sApp [1] 2 (mVar 1)))
noncomputable def d_rounds:MSt:=(sSeq (sSet [] 1 (mN 0))
  (sSeq (sSetO [1] 2 (mLim (aCons (mVar 1) aNil)))
  (sSeq (sWhile 1000 (truB (bin2 pNe (mCall r_defended (aCons (mVar 0) (aCons (mVar 1) aNil))) (mVar 1))) b1_rounds)
  (sRetV 2))))
noncomputable def r_rounds:List PV→Option PV:=runV 3 1 d_rounds
theorem r_rounds_len:∀ ps r,r_rounds ps=some r→ps.length=1:=runV_len
noncomputable def b1_rank_in:MSt:=(sIf (mTru (mCall r_inside (aCons (bin2 pShl (mN 1) (mVar 1)) (aCons (mVar 3) aNil)))) (sRetV 2) sNx)
noncomputable def d_rank_in:MSt:=(sSeq (sFor [0] (mCall pEnumL (aCons (mVar 0) aNil)) (gSet2 2 3) b1_rank_in)
  (sRet (mC .non)))
noncomputable def r_rank_in:List PV→Option PV:=runV 4 2 d_rank_in
theorem r_rank_in_len:∀ ps r,r_rank_in ps=some r→ps.length=2:=runV_len
noncomputable def d_places:MSt:=(sRetO (mComp (iRg1 (mMt0 "int" pBits (mVar 0))) 1 [0] (gSet 0) (mTru (bin2 pAnd (bin2 pShr (mVar 1) (mVar 0)) (mN 1))) (mVar 0)))
noncomputable def r_places:List PV→Option PV:=runV 1 1 d_places
theorem r_places_len:∀ ps r,r_places ps=some r→ps.length=1:=runV_len
noncomputable def d_does_yield:MSt:=(sRet (mCall r_inside (aCons (bin2 pShl (mN 1) (mVar 2)) (aCons (mCall r_yielded (aCons (mVar 0) (aCons (mVar 1) aNil))) aNil))))
noncomputable def r_does_yield:List PV→Option PV:=runV 3 3 d_does_yield
theorem r_does_yield_len:∀ ps r,r_does_yield ps=some r→ps.length=3:=runV_len
noncomputable def b1_a_reason:MSt:=(sSeq (sSet [3,4] 5 (bin2 pAnd (mVar 3) (un1 pInv (bin2 pShl (mN 1) (mVar 4)))))
  (sIf (mTru (mCall r_does_yield (aCons (mVar 0) (aCons (mVar 5) (aCons (mVar 2) aNil))))) (sSet [5] 3 (mVar 5)) sNx))
noncomputable def d_a_reason:MSt:=(sSeq (sIf (bNot (mTru (mCall r_does_yield (aCons (mVar 0) (aCons (mVar 1) (aCons (mVar 2) aNil)))))) (sRet (mC .non)) sNx)
  (sSeq (sSet [1] 3 (mVar 1))
  (sSeq (sFor [1] (iLst (mCall r_places (aCons (mVar 1) aNil))) (gSet 4) b1_a_reason)
  (sRetV 3))))
noncomputable def r_a_reason:List PV→Option PV:=runV 6 3 d_a_reason
theorem r_a_reason_len:∀ ps r,r_a_reason ps=some r→ps.length=3:=runV_len
noncomputable def d_first_strike:MSt:=(sSeq (sSet [1] 3 (bin2 pIx (mCall r_places (aCons (mVar 1) aNil)) (mN 0)))
  (sRet (mTup (aCons (mVar 3) (aCons (mCall r_a_reason (aCons (mVar 0) (aCons (mVar 2) (aCons (bin2 pIx (bin2 pIx (mVar 0) (mN 1)) (mVar 3)) aNil)))) aNil)))))
noncomputable def r_first_strike:List PV→Option PV:=runV 4 3 d_first_strike
theorem r_first_strike_len:∀ ps r,r_first_strike ps=some r→ps.length=3:=runV_len
noncomputable def d_reply:MSt:=(sSeq (sIf (truB (bin2 pNotIn (mVar 1) (mCall r_places (aCons (mCall r_struck (aCons (mVar 0) (aCons (mVar 2) aNil))) aNil)))) (sRet (mC .non)) sNx)
  (sSeq (sSet [0] 3 (mCall r_rounds (aCons (mVar 0) aNil)))
  (sSeq (sSet [3,1] 4 (mCall r_rank_in (aCons (mVar 3) (aCons (mVar 1) aNil))))
  (sSeq (sIf (truB (bin2 pIs (mVar 4) (mC .non))) (sRet (mC .non)) sNx)
  (sSeq (sSet [3,4] 5 (bin2 pIx (mVar 3) (bin2 pSub (mVar 4) (mN 1))))
  (sRet (mCall r_first_strike (aCons (mVar 0) (aCons (bin2 pAnd (mVar 2) (mCall r_struck (aCons (mVar 0) (aCons (mVar 5) aNil)))) (aCons (mVar 5) aNil))))))))))
noncomputable def r_reply:List PV→Option PV:=runV 6 3 d_reply
theorem r_reply_len:∀ ps r,r_reply ps=some r→ps.length=3:=runV_len
noncomputable def d_Talk___init__ (C:Addr):MX OT:=(xSeq (xFset [1] "book" (mVar 1))
  (xSeq (xFset [2] "held" (mVar 2))
  (xSeq (xFset [] "unanswered" (mC .non))
  (xFnew [] "moves" (mLim aNil)))))
noncomputable def r_Talk___init__ (C:Addr):Addr→List PV→OT→Option OT:=runX 3 3 (d_Talk___init__ C)
theorem r_Talk___init___len (C:Addr):∀ a qs t t',r_Talk___init__ C a qs t=some t'→qs.length + 1=3:=runX_len
noncomputable def d__law_tops:MSt:=(sRet (mCall pMaxL (aCons (mLst (bin2 pCat (mLst (mLim (aCons (mN 0) aNil))) (mLst (mComp (iRg1 (mCall pLen (aCons (mVar 0) aNil))) 1 [1,0] (gSet 0) (truB (bin2 pEq (bin2 pAnd (bin2 pShr (mVar 1) (mVar 0)) (mN 1)) (mN 1))) (bin2 pIx (mVar 2) (mVar 0)))))) aNil)))
noncomputable def r__law_tops:List PV→Option PV:=runV 2 2 d__law_tops
theorem r__law_tops_len:∀ ps r,r__law_tops ps=some r→ps.length=2:=runV_len
noncomputable def d__law_struck_by:MSt:=(sSeq (sSet [2,0] 3 (bin2 pMod (mVar 2) (bin2 pShl (mN 1) (mCall pLen (aCons (bin2 pIx (mVar 0) (mN 1)) aNil)))))
  (sSeq (sIf (truB (bin2 pNotIn (bin2 pIx (bin2 pIx (mVar 0) (mN 1)) (mVar 1)) (mCall r__law_yields (aCons (mVar 0) (aCons (mVar 3) aNil))))) (sRet (bin2 pSub (bin2 pShl (mN 1) (mCall pLen (aCons (bin2 pIx (mVar 0) (mN 1)) aNil))) (mN 1))) sNx)
  (sRetV 3)))
noncomputable def r__law_struck_by:List PV→Option PV:=runV 4 3 d__law_struck_by
theorem r__law_struck_by_len:∀ ps r,r__law_struck_by ps=some r→ps.length=3:=runV_len
noncomputable def d_Talk_turn (C:Addr):MSt:=(sRet (mIfE (truB (bin2 pIs (mFld C "unanswered" (mVar 0)) (mC .non))) (mC (.str "doubter")) (mC (.str "speaker"))))
noncomputable def r_Talk_turn (C:Addr):List PV→Option PV:=runV 1 1 (d_Talk_turn C)
theorem r_Talk_turn_len (C:Addr):∀ ps r,r_Talk_turn C ps=some r→ps.length=1:=runV_len
noncomputable def d_Talk_aims (C:Addr):MSt:=(sRet (mIfE (truB (bin2 pIs (mFld C "unanswered" (mVar 0)) (mC .non))) (mFld C "held" (mVar 0)) (bin2 pIx (mFld C "unanswered" (mVar 0)) (mN 1))))
noncomputable def r_Talk_aims (C:Addr):List PV→Option PV:=runV 1 1 (d_Talk_aims C)
theorem r_Talk_aims_len (C:Addr):∀ ps r,r_Talk_aims C ps=some r→ps.length=1:=runV_len
noncomputable def d_Talk_can_name (C:Addr):MSt:=(sRet (bin2 pIn (mVar 1) (mCall r_places (aCons (bin2 pAnd (mMeth C "aims" (r_Talk_aims C) (mVar 0) aNil) (mCall r_struck (aCons (mFld C "book" (mVar 0)) (aCons (mVar 2) aNil)))) aNil))))
noncomputable def r_Talk_can_name (C:Addr):List PV→Option PV:=runV 3 3 (d_Talk_can_name C)
theorem r_Talk_can_name_len (C:Addr):∀ ps r,r_Talk_can_name C ps=some r→ps.length=3:=runV_len
noncomputable def d_Talk_doubted (C:Addr):MX OT:=(xSeq (xIfA 0 (rdObj C "moves") (truB (bin2 pNe (mMeth C "turn" (r_Talk_turn C) (mVar 0) aNil) (mC (.str "doubter")))) (xLift 0 sNo) xNx)
  (xSeq (xIfA 0 (rdObj C "moves") (bNot (mTru (mMeth C "can_name" (r_Talk_can_name C) (mVar 0) (aCons (mVar 1) (aCons (mVar 2) aNil))))) (xLift 0 sNo) xNx)
  (xSeq (xFset [1,2] "unanswered" (mTup (aCons (mVar 1) (aCons (mVar 2) aNil))))
  (xFapp [1,2] "moves" (mTup (aCons (mC (.str "doubt")) (aCons (mVar 1) (aCons (mVar 2) aNil))))))))
noncomputable def r_Talk_doubted (C:Addr):Addr→List PV→OT→Option OT:=runX 3 3 (d_Talk_doubted C)
theorem r_Talk_doubted_len (C:Addr):∀ a qs t t',r_Talk_doubted C a qs t=some t'→qs.length + 1=3:=runX_len
noncomputable def d_Talk_replied (C:Addr):MX OT:=(xSeq (xIfA 0 (rdObj C "moves") (truB (bin2 pNe (mMeth C "turn" (r_Talk_turn C) (mVar 0) aNil) (mC (.str "speaker")))) (xLift 0 sNo) xNx)
  (xSeq (xIfA 0 (rdObj C "moves") (bNot (mTru (mMeth C "can_name" (r_Talk_can_name C) (mVar 0) (aCons (mVar 1) (aCons (mVar 2) aNil))))) (xLift 0 sNo) xNx)
  (xSeq (xFset [2] "held" (mVar 2))
  (xSeq (xFset [] "unanswered" (mC .non))
  (xFapp [1,2] "moves" (mTup (aCons (mC (.str "reply")) (aCons (mVar 1) (aCons (mVar 2) aNil)))))))))
noncomputable def r_Talk_replied (C:Addr):Addr→List PV→OT→Option OT:=runX 3 3 (d_Talk_replied C)
theorem r_Talk_replied_len (C:Addr):∀ a qs t t',r_Talk_replied C a qs t=some t'→qs.length + 1=3:=runX_len
noncomputable def d_Talk_winner (C:Addr):MSt:=(sSeq (sIf (mTru (bin2 pAnd (mMeth C "aims" (r_Talk_aims C) (mVar 0) aNil) (mCall r_struck (aCons (mFld C "book" (mVar 0)) (aCons (mCall r_all_guesses (aCons (mFld C "book" (mVar 0)) aNil)) aNil))))) (sRet (mC .non)) sNx)
  (sRet (mIfE (truB (bin2 pEq (mMeth C "turn" (r_Talk_turn C) (mVar 0) aNil) (mC (.str "doubter")))) (mC (.str "speaker")) (mC (.str "doubter")))))
noncomputable def r_Talk_winner (C:Addr):List PV→Option PV:=runV 1 1 (d_Talk_winner C)
theorem r_Talk_winner_len (C:Addr):∀ ps r,r_Talk_winner C ps=some r→ps.length=1:=runV_len
noncomputable def b1__law_reason:MSt:=(sIf (bAnd (truB (bin2 pEq (bin2 pAnd (bin2 pShr (mVar 1) (mVar 3)) (mN 1)) (mN 1))) (truB (bin2 pIn (mVar 2) (mCall r__law_yields (aCons (mVar 0) (aCons (bin2 pSub (mVar 1) (bin2 pShl (mN 1) (mVar 3))) aNil)))))) (sRet (mC (.bl false))) sNx)
noncomputable def d__law_reason:MSt:=(sSeq (sIf (truB (bin2 pNotIn (mVar 2) (mCall r__law_yields (aCons (mVar 0) (aCons (mVar 1) aNil))))) (sRet (mC (.bl false))) sNx)
  (sSeq (sForR (iRg1 (mCall pLen (aCons (bin2 pIx (mVar 0) (mN 1)) aNil))) (gSet 3) b1__law_reason)
  (sRet (mC (.bl true)))))
noncomputable def r__law_reason:List PV→Option PV:=runV 4 3 d__law_reason
theorem r__law_reason_len:∀ ps r,r__law_reason ps=some r→ps.length=3:=runV_len
noncomputable def b1__law_good_2:MSt:=(sIf (bOr (bNot (mTru (mIsi isInt (mVar 5)))) (bOr (mTru (mIsi isBl (mVar 5))) (truB (bin2 pLt (mVar 5) (mN 0))))) (sRet (mC (.bl false))) sNx)
noncomputable def b2__law_good_2:MSt:=(sIf (bAnd (truB (bin2 pEq (bin2 pAnd (bin2 pShr (bin2 pIx (mVar 4) (mN 1)) (mVar 6)) (mN 1)) (mN 1))) (bOr (truB (bin2 pEq (bin2 pIx (mVar 1) (mVar 6)) (mN 0))) (truB (bin2 pGe (bin2 pIx (mVar 1) (mVar 6)) (bin2 pIx (mVar 1) (mVar 2)))))) (sRet (mC (.bl false))) sNx)
noncomputable def d__law_good_2:MSt:=(sSeq (sIf (bOr (bNot (mTru (mIsi isTup (mVar 4)))) (truB (bin2 pNe (mCall pLen (aCons (mVar 4) aNil)) (mN 2)))) (sRet (mC (.bl false))) sNx)
  (sSeq (sFor [4] (iTpl (mVar 4)) (gSet 5) b1__law_good_2)
  (sSeq (sIf (bOr (truB (bin2 pGe (bin2 pIx (mVar 4) (mN 0)) (mCall pLen (aCons (mVar 1) aNil)))) (bOr (truB (bin2 pEq (bin2 pAnd (bin2 pShr (mVar 3) (bin2 pIx (mVar 4) (mN 0))) (mN 1)) (mN 0))) (truB (bin2 pGe (bin2 pIx (mVar 4) (mN 1)) (bin2 pShl (mN 1) (mCall pLen (aCons (mVar 1) aNil))))))) (sRet (mC (.bl false))) sNx)
  (sSeq (sForR (iRg1 (mCall pLen (aCons (mVar 1) aNil))) (gSet 6) b2__law_good_2)
  (sRet (mCall r__law_reason (aCons (mVar 0) (aCons (bin2 pIx (mVar 4) (mN 1)) (aCons (bin2 pIx (bin2 pIx (mVar 0) (mN 1)) (bin2 pIx (mVar 4) (mN 0))) aNil)))))))))
noncomputable def r__law_good_2:List PV→Option PV:=runV 7 5 d__law_good_2
theorem r__law_good_2_len:∀ ps r,r__law_good_2 ps=some r→ps.length=5:=runV_len
noncomputable def d_Talk_now (C:Addr):MSt:=(sRet (mFld C "held" (mVar 0)))
noncomputable def r_Talk_now (C:Addr):List PV→Option PV:=runV 1 1 (d_Talk_now C)
theorem r_Talk_now_len (C:Addr):∀ ps r,r_Talk_now C ps=some r→ps.length=1:=runV_len
noncomputable def b1__law_won (C:Addr):MX OT:=(xSeq (xLift 5 (sSetO [1,2,0,4] 7 (mComp (iRg1 (mCall pLen (aCons (mVar 1) aNil))) 1 [2,0,4] (gSet 0) (bAnd (truB (bin2 pEq (bin2 pAnd (bin2 pShr (mVar 1) (mVar 0)) (mN 1)) (mN 1))) (truB (bin2 pIn (bin2 pIx (bin2 pIx (mVar 2) (mN 1)) (mVar 0)) (mVar 3)))) (mVar 0))))
  (xSeq (xLift 5 (sIf (truB (bin2 pEq (mVar 7) (mLst (mLim aNil)))) sBk sNx))
  (xSeq (xLift 5 (sSet [3,6] 8 (mCall r__law_cell_at (aCons (mVar 3) (aCons (mVar 6) aNil)))))
  (xSeq (xLift 5 (sSet [7,8,7] 9 (bin2 pIx (mVar 7) (bin2 pMod (mVar 8) (mCall pLen (aCons (mVar 7) aNil))))))
  (xSeq (xLift 5 (sSet [0,9,8] 10 (mCall r__law_struck_by (aCons (mVar 0) (aCons (mVar 9) (aCons (bin2 pDiv (mVar 8) (mN 60)) aNil))))))
  (xSeq (xLift 5 (sSet [0,9,10] 11 (mCall r_reply (aCons (mVar 0) (aCons (mVar 9) (aCons (mVar 10) aNil))))))
  (xSeq (xLift 5 (sIf (bNot (mTru (mCall r__law_good_2 (aCons (mVar 0) (aCons (mVar 1) (aCons (mVar 9) (aCons (mVar 10) (aCons (mVar 11) aNil)))))))) (sRet (mC (.bl false))) sNx))
  (xSeq (xMeth 5 [9,10] (okM "moves" "doubted") (r_Talk_doubted C) (aCons (mVar 9) (aCons (mVar 10) aNil)))
  (xSeq (xMeth 5 [11,11] (okM "moves" "replied") (r_Talk_replied C) (aCons (bin2 pIx (mVar 11) (mN 0)) (aCons (bin2 pIx (mVar 11) (mN 1)) aNil)))
  (xSeq (xLift 5 (sSet [11] 2 (bin2 pIx (mVar 11) (mN 1))))
  (xIfA 5 (rdObj C "moves") (bOr (truB (bin2 pNe (mMeth C "now" (r_Talk_now C) (mVar 5) aNil) (mVar 2))) (truB (bin2 pNe (mMeth C "turn" (r_Talk_turn C) (mVar 5) aNil) (mC (.str "doubter"))))) (xLift 5 (sRet (mC (.bl false)))) xNx)))))))))))
noncomputable def d__law_won (C:Addr):MSt:=(sSeq (sSet [0,1] 4 (mCall r__law_yields (aCons (mVar 0) (aCons (bin2 pSub (bin2 pShl (mN 1) (mCall pLen (aCons (mVar 1) aNil))) (mN 1)) aNil))))
  (sMake 5 [0,2] (aCons (mVar 0) (aCons (mVar 2) aNil)) (r_Talk___init__ C) (xSeq (xForR 5 (iRg1 (mCall r__law_tops (aCons (mVar 1) (aCons (mVar 2) aNil)))) (gSet 6) (b1__law_won C))
  (xRetA 5 (rdObj C "moves") (bin2 pEq (mMeth C "winner" (r_Talk_winner C) (mVar 5) aNil) (mC (.str "speaker")))))))
noncomputable def r__law_won (C:Addr):List PV→Option PV:=runV 12 4 (d__law_won C)
theorem r__law_won_len (C:Addr):∀ ps r,r__law_won C ps=some r→ps.length=4:=runV_len
noncomputable def b1_law_k34 (C:Addr):MSt:=(sSeq (sSet [0,3,6,1] 7 (bin2 pMod (mCall r__law_cell_at (aCons (mVar 0) (aCons (bin2 pAdd (bin2 pAdd (mVar 3) (mN 20)) (mVar 6)) aNil))) (bin2 pShl (mN 1) (mVar 1))))
  (sSeq (sSet [4,6,7] 8 (mCall r_reply (aCons (mVar 4) (aCons (mVar 6) (aCons (mVar 7) aNil)))))
  (sIf (bOr (truB (bin2 pEq (bin2 pIx (mVar 5) (mVar 6)) (mN 0))) (truB (bin2 pNotIn (bin2 pIx (bin2 pIx (mVar 4) (mN 1)) (mVar 6)) (mCall r__law_yields (aCons (mVar 4) (aCons (mVar 7) aNil)))))) (sIf (truB (bin2 pIsNot (mVar 8) (mC .non))) (sRet (mC (.bl false))) sNx) (sIf (bNot (mTru (mCall r__law_good_2 (aCons (mVar 4) (aCons (mVar 5) (aCons (mVar 6) (aCons (mVar 7) (aCons (mVar 8) aNil)))))))) (sRet (mC (.bl false))) sNx))))
noncomputable def b2_law_k34 (C:Addr):MSt:=(sSeq (sSet [0,3,9] 10 (bin2 pDiv (mCall r__law_cell_at (aCons (mVar 0) (aCons (bin2 pAdd (mVar 3) (bin2 pMul (mN 4) (mVar 9))) aNil))) (mN 7)))
  (sSeq (sSet [1,5,10] 11 (mCall pSum (aCons (mLst (mComp (iRg1 (mVar 1)) 1 [5,10] (gSet 0) (bAnd (truB (bin2 pGt (bin2 pIx (mVar 1) (mVar 0)) (mN 0))) (truB (bin2 pEq (bin2 pAnd (bin2 pShr (mVar 2) (mVar 0)) (mN 1)) (mN 0)))) (bin2 pShl (mN 1) (mVar 0)))) aNil)))
  (sIf (bNot (mTru (mCall (r__law_won C) (aCons (mVar 4) (aCons (mVar 5) (aCons (mVar 11) (aCons (mLst (sl3 pCut (mVar 0) (mSo (bin2 pAdd (mVar 3) (bin2 pMul (mN 4) (mVar 9)))) (mSo (bin2 pAdd (bin2 pAdd (mVar 3) (bin2 pMul (mN 4) (mVar 9))) (mN 4))))) aNil))))))) (sRet (mC (.bl false))) sNx)))
noncomputable def d_law_k34 (C:Addr):MSt:=(sSeq (sSet [0] 1 (bin2 pMod (mCall r__law_cell_at (aCons (mVar 0) (aCons (mN 0) aNil))) (mN 7)))
  (sSeq (sIf (truB (bin2 pEq (bin2 pMod (bin2 pDiv (mCall r__law_cell_at (aCons (mVar 0) (aCons (mN 0) aNil))) (mN 63)) (mN 8)) (mN 1))) (sSet [1] 1 (bin2 pAdd (mN 7) (bin2 pMod (mVar 1) (mN 2)))) sNx)
  (sSeq (sSet [1,0] 2 (bin2 pAdd (mVar 1) (bin2 pMod (bin2 pAdd (bin2 pDiv (mCall r__law_cell_at (aCons (mVar 0) (aCons (mN 0) aNil))) (mN 7)) (mN 1)) (mN 9))))
  (sSeq (sSet [0] 3 (bin2 pAdd (mN 3) (bin2 pMod (mCall r__law_cell_at (aCons (mVar 0) (aCons (mN 2) aNil))) (mN 9))))
  (sSeq (sSet [0,1,2,3] 4 (mCall r__law_book_of_5 (aCons (mVar 0) (aCons (mVar 1) (aCons (mVar 2) (aCons (mVar 3) aNil))))))
  (sSeq (sSet [4] 5 (mCall r__law_ranks (aCons (mVar 4) aNil)))
  (sSeq (sForR (iRg1 (mVar 1)) (gSet 6) (b1_law_k34 C))
  (sSeq (sForR (iRg1 (mN 5)) (gSet 9) (b2_law_k34 C))
  (sRet (mC (.bl true)))))))))))
noncomputable def r_law_k34 (C:Addr):List PV→Option PV:=runV 12 1 (d_law_k34 C)
theorem e_cell (ns:List Int) (k:Nat):r__law_cell_at [.lst (ns.map .int),pN k]=some (.int (ns.getD k 0)):=by
  unfold r__law_cell_at d__law_cell_at
  (try simp (disch:=first | assumption | omega | (simp only [encN_len,List.length_map,List.length_range,List.length_cons,List.length_nil,List.length_append];omega) | decide) only [EVc,List.length_cons,List.length_nil,if_true,List.map_cons,List.map_nil,List.replicate_zero,List.replicate_succ,List.cons_append,List.nil_append,List.getElem?_cons_zero,List.getElem?_cons_succ,Option.bind_some,Option.map_some,List.set_cons_zero,List.set_cons_succ,List.length_map,List.length_range,List.all_nil,List.all_cons,List.length_append])
  by_cases h:k < ns.length
  · rw [decide_eq_true h]
    (try simp (disch:=first | assumption | omega | (simp only [encN_len,List.length_map,List.length_range,List.length_cons,List.length_nil,List.length_append];omega) | decide) only [EVc,List.length_cons,List.length_nil,if_true,List.map_cons,List.map_nil,List.replicate_zero,List.replicate_succ,List.cons_append,List.nil_append,List.getElem?_cons_zero,List.getElem?_cons_succ,Option.bind_some,Option.map_some,List.set_cons_zero,List.set_cons_succ,List.length_map,List.length_range,List.all_nil,List.all_cons,List.length_append])
    simp [h]
    rfl
  · rw [decide_eq_false h]
    (try simp (disch:=first | assumption | omega | (simp only [encN_len,List.length_map,List.length_range,List.length_cons,List.length_nil,List.length_append];omega) | decide) only [EVc,List.length_cons,List.length_nil,if_true,List.map_cons,List.map_nil,List.replicate_zero,List.replicate_succ,List.cons_append,List.nil_append,List.getElem?_cons_zero,List.getElem?_cons_succ,Option.bind_some,Option.map_some,List.set_cons_zero,List.set_cons_succ,List.length_map,List.length_range,List.all_nil,List.all_cons,List.length_append])
    simp [h]
    rfl
noncomputable def maskN (row:List Nat):Nat:=row.foldl (fun m k=>m|||2 ^ k) 0
theorem testBit_fold (k:Nat):∀ (row:List Nat) (m:Nat),(row.foldl (fun m k=>m|||2 ^ k) m).testBit k=(m.testBit k||decide (k∈row))
  | [],m=>by simp
  | x :: r,m=>by
    rw [List.foldl_cons,testBit_fold k r,Nat.testBit_or,Nat.testBit_two_pow]
    by_cases h:x=k
    · subst h;simp
    · have h':k≠x:=fun e=>h e.symm
      simp [h,h']
theorem testBit_mask (row:List Nat) (k:Nat):(maskN row).testBit k=decide (k∈row):=by
  unfold maskN
  rw [testBit_fold];simp
noncomputable def insB (a b:Nat):Bool:=(a&&&b)==a
theorem insB_iff {a b:Nat}:insB a b=true↔∀ k,a.testBit k=true→b.testBit k=true:=by
  unfold insB
  rw [beq_iff_eq]
  constructor
  · intro h k hk
    rw [← h,Nat.testBit_and] at hk
    simp at hk
    exact hk.2
  · intro h
    refine Nat.eq_of_testBit_eq fun k => ?_
    rw [Nat.testBit_and]
    cases hk:a.testBit k with
    | false=>rfl
    | true=>rw [h k hk];rfl
theorem insB_pow {k b:Nat}:insB (2 ^ k) b=b.testBit k:=by
  rw [Bool.eq_iff_iff,insB_iff]
  constructor
  · intro h;exact h k Nat.testBit_two_pow_self
  · intro h j hj
    rw [Nat.testBit_two_pow] at hj
    simp at hj
    rw [← hj];exact h
theorem insB_mask {row:List Nat} {b:Nat}:insB (maskN row) b=row.all fun k=>b.testBit k:=by
  rw [Bool.eq_iff_iff,insB_iff,List.all_eq_true]
  constructor
  · intro h k hk;exact h k (by rw [testBit_mask];simpa using hk)
  · intro h k hk;rw [testBit_mask] at hk;exact h k (by simpa using hk)
theorem e_inside (a b:Nat):r_inside [pN a,pN b]=some (.bl (insB a b)):=by
  unfold r_inside d_inside
  (try simp (disch:=first | assumption | omega | (simp only [encN_len,List.length_map,List.length_range,List.length_cons,List.length_nil,List.length_append];omega) | decide) only [EVc,List.length_cons,List.length_nil,if_true,List.map_cons,List.map_nil,List.replicate_zero,List.replicate_succ,List.cons_append,List.nil_append,List.getElem?_cons_zero,List.getElem?_cons_succ,Option.bind_some,Option.map_some,List.set_cons_zero,List.set_cons_succ,List.length_map,List.length_range,List.all_nil,List.all_cons,List.length_append])
  rfl
theorem mask_for {row:List Nat} (h:∀ k∈row,k≤1000) (s2:Slot) (sl:Slot):∃ s2',forL (gSet 2) b1_mask_of (encN row) [sl,.fz (pN 0),s2]=some (.nx [sl,.fz (pN (maskN row)),s2']):=by
  obtain ⟨γ',e,s2',rfl⟩:=forL_rel (g:=gSet 2) (b:=b1_mask_of) pN (fun (m:Nat) (k:Nat)=>m|||2 ^ k)
    (fun m γ=>∃ s2,γ=[sl,.fz (pN m),s2]) row 0 [sl,.fz (pN 0),s2] ⟨s2,rfl⟩ (by
      rintro m γ k hk ⟨s2,rfl⟩
      have:=h k hk
      refine ⟨_,_,rfl,?_,.fz (pN k),rfl⟩
      unfold b1_mask_of
      (try simp (disch:=first | assumption | omega | (simp only [encN_len,List.length_map,List.length_range,List.length_cons,List.length_nil,List.length_append];omega) | decide) only [EVc,List.length_cons,List.length_nil,if_true,List.map_cons,List.map_nil,List.replicate_zero,List.replicate_succ,List.cons_append,List.nil_append,List.getElem?_cons_zero,List.getElem?_cons_succ,Option.bind_some,Option.map_some,List.set_cons_zero,List.set_cons_succ,List.length_map,List.length_range,List.all_nil,List.all_cons,List.length_append]))
  exact ⟨s2',e⟩
theorem e_mask_l {row:List Nat} (h:∀ k∈row,k≤1000):r_mask_of [.lst (encN row)]=some (pN (maskN row)):=by
  unfold r_mask_of d_mask_of
  (try simp (disch:=first | assumption | omega | (simp only [encN_len,List.length_map,List.length_range,List.length_cons,List.length_nil,List.length_append];omega) | decide) only [EVc,List.length_cons,List.length_nil,if_true,List.map_cons,List.map_nil,List.replicate_zero,List.replicate_succ,List.cons_append,List.nil_append,List.getElem?_cons_zero,List.getElem?_cons_succ,Option.bind_some,Option.map_some,List.set_cons_zero,List.set_cons_succ,List.length_map,List.length_range,List.all_nil,List.all_cons,List.length_append])
  obtain ⟨s,e⟩:=mask_for h .un (.fz (.lst (encN row)))
  rw [e]
  (try simp (disch:=first | assumption | omega | (simp only [encN_len,List.length_map,List.length_range,List.length_cons,List.length_nil,List.length_append];omega) | decide) only [EVc,List.length_cons,List.length_nil,if_true,List.map_cons,List.map_nil,List.replicate_zero,List.replicate_succ,List.cons_append,List.nil_append,List.getElem?_cons_zero,List.getElem?_cons_succ,Option.bind_some,Option.map_some,List.set_cons_zero,List.set_cons_succ,List.length_map,List.length_range,List.all_nil,List.all_cons,List.length_append])
theorem e_mask_t {row:List Nat} (h:∀ k∈row,k≤1000):r_mask_of [.tup (encN row)]=some (pN (maskN row)):=by
  unfold r_mask_of d_mask_of
  (try simp (disch:=first | assumption | omega | (simp only [encN_len,List.length_map,List.length_range,List.length_cons,List.length_nil,List.length_append];omega) | decide) only [EVc,List.length_cons,List.length_nil,if_true,List.map_cons,List.map_nil,List.replicate_zero,List.replicate_succ,List.cons_append,List.nil_append,List.getElem?_cons_zero,List.getElem?_cons_succ,Option.bind_some,Option.map_some,List.set_cons_zero,List.set_cons_succ,List.length_map,List.length_range,List.all_nil,List.all_cons,List.length_append])
  obtain ⟨s,e⟩:=mask_for h .un (.fz (.tup (encN row)))
  rw [e]
  (try simp (disch:=first | assumption | omega | (simp only [encN_len,List.length_map,List.length_range,List.length_cons,List.length_nil,List.length_append];omega) | decide) only [EVc,List.length_cons,List.length_nil,if_true,List.map_cons,List.map_nil,List.replicate_zero,List.replicate_succ,List.cons_append,List.nil_append,List.getElem?_cons_zero,List.getElem?_cons_succ,Option.bind_some,Option.map_some,List.set_cons_zero,List.set_cons_succ,List.length_map,List.length_range,List.all_nil,List.all_cons,List.length_append])
structure Rule where
  head:Nat
  body:List Nat
structure Bk where
  words:Nat
  banes:List Nat
  rules:List Rule
noncomputable def Rule.enc (r:Rule):PV := .tup [pN r.head,.tup (encN r.body)]
noncomputable def Bk.enc (b:Bk):PV := .tup [pN b.words,.tup (encN b.banes),.tup (b.rules.map Rule.enc)]
structure Bk.Ok (b:Bk):Prop where
  g8:b.banes.length≤8
  gw:b.banes.length≤b.words
  w60:b.words≤60
  r40:b.rules.length≤48
  bane:∀ x∈b.banes,x < b.words
  hd:∀ r∈b.rules,b.banes.length≤r.head∧r.head < b.words
  bd:∀ r∈b.rules,r.body.Pairwise (· < ·)∧∀ x∈r.body,x < b.words
inductive Way (b:Bk) (held:Nat):List Nat→Nat→Prop
  | nil:Way b held [] held
  | snoc {steps known i r}:Way b held steps known→b.rules[i]?=some r→(∀ x∈r.body,known.testBit x=true)→known.testBit r.head=false→Way b held (steps++[i]) (known|||2 ^ r.head)
noncomputable def Closed (b:Bk) (known:Nat):Prop:=∀ r∈b.rules,(∀ x∈r.body,known.testBit x=true)→known.testBit r.head=true
inductive Der (b:Bk) (held:Nat):Nat→Prop
  | held {w}:held.testBit w=true→Der b held w
  | rule {r}:r∈b.rules→(∀ x∈r.body,Der b held x)→Der b held r.head
theorem testBit_or_pow (m k j:Nat):(m|||2 ^ k).testBit j=(m.testBit j||decide (k=j)):=by
  rw [Nat.testBit_or,Nat.testBit_two_pow]
theorem Way.der {b:Bk} {held:Nat} {steps:List Nat} {known:Nat} (h:Way b held steps known):∀ w,known.testBit w=true→Der b held w:=by
  induction h with
  | nil=>exact fun w hw => .held hw
  | snoc _ hr hb _ ih =>
    intro w hw
    rw [testBit_or_pow] at hw
    simp at hw
    rcases hw with hw | hw
    · exact ih w hw
    · subst hw;exact .rule (List.mem_of_getElem? hr) fun x hx=>ih x (hb x hx)
theorem Way.sub {b:Bk} {held:Nat} {steps:List Nat} {known:Nat} (h:Way b held steps known):∀ w,held.testBit w=true→known.testBit w=true:=by
  induction h with
  | nil=>exact fun w hw=>hw
  | snoc _ hr hb _ ih =>
    intro w hw
    rw [testBit_or_pow,ih w hw];rfl
theorem Closed.der {b:Bk} {held known:Nat} (c:Closed b known) (s:∀ w,held.testBit w=true→known.testBit w=true) {w:Nat} (h:Der b held w):known.testBit w=true:=by
  induction h with
  | held hw=>exact s _ hw
  | rule hr _ ih=>exact c _ hr ih
noncomputable def IsYl (b:Bk) (held known:Nat):Prop:=∀ w,known.testBit w=true↔Der b held w
theorem IsYl.of {b:Bk} {held:Nat} {steps:List Nat} {known:Nat} (h:Way b held steps known) (c:Closed b known):IsYl b held known:=fun w=>⟨h.der w,c.der h.sub⟩
theorem IsYl.unique {b:Bk} {held k1 k2:Nat} (h1:IsYl b held k1) (h2:IsYl b held k2):k1=k2 :=
  Nat.eq_of_testBit_eq fun w=>by rw [Bool.eq_iff_iff,h1 w,h2 w]
theorem Der.mono {b:Bk} {h1 h2:Nat} (s:∀ w,h1.testBit w=true→h2.testBit w=true) {w:Nat} (d:Der b h1 w):Der b h2 w:=by
  induction d with
  | held hw=>exact .held (s _ hw)
  | rule hr _ ih=>exact .rule hr ih
theorem Der.lt {b:Bk} (ok:b.Ok) {held:Nat} (hh:held < 2 ^ b.words) {w:Nat} (d:Der b held w):w < b.words:=by
  induction d with
  | held hw =>
    rename_i w
    rcases Nat.lt_or_ge w b.words with h | h
    · exact h
    · have:held < 2 ^ w:=Nat.lt_of_lt_of_le hh (Nat.pow_le_pow_right (by decide) h)
      rw [Nat.testBit_lt_two_pow this] at hw;cases hw
  | rule hr _ _=>exact (ok.hd _ hr).2
theorem Der.guess {b:Bk} (ok:b.Ok) {held g:Nat} (hg:g < b.banes.length) (d:Der b held g):held.testBit g=true:=by
  cases d with
  | held hw=>exact hw
  | rule hr _=>have:=(ok.hd _ hr).1;omega
noncomputable def left (b:Bk) (known:Nat):Nat:=(b.rules.filter fun r => !known.testBit r.head).length
theorem filter_lt {α:Type} {p q:α→Bool}:∀ {l:List α} {x:α},x∈l→p x=true→q x=false→(∀ y,q y=true→p y=true)→(l.filter q).length < (l.filter p).length
  | y :: l,x,hx,hp,hq,hi=>by
    have le:∀ l:List α,(l.filter q).length≤(l.filter p).length:=by
      intro l
      induction l with
      | nil=>exact Nat.le_refl _
      | cons z l ih =>
        rw [List.filter_cons,List.filter_cons]
        cases hz:q z with
        | true=>rw [hi z hz];simp;exact ih
        | false=>cases p z <;> simp <;> omega
    rcases List.mem_cons.mp hx with e | e
    · subst e
      rw [List.filter_cons_of_pos hp,List.filter_cons_of_neg (by simp [hq])]
      have:=le l
      simp only [List.length_cons];omega
    · have:=filter_lt e hp hq hi
      rw [List.filter_cons,List.filter_cons]
      cases hz:q y with
      | true=>rw [hi y hz];simp;omega
      | false=>cases p y <;> simp <;> omega
theorem Way.left {b:Bk} {held:Nat} {steps:List Nat} {known:Nat} (h:Way b held steps known):steps.length + left b known≤b.rules.length:=by
  induction h with
  | nil=>rw [List.length_nil,Nat.zero_add];exact List.length_filter_le _ _
  | snoc _ hr hb hn ih =>
    rename_i st kn i r _
    have:DH.left b (kn|||2 ^ r.head) < DH.left b kn:=filter_lt (List.mem_of_getElem? hr) (by simp [hn]) (by rw [testBit_or_pow];simp) (fun y hy=>by
      rw [testBit_or_pow] at hy
      simp at hy
      simp [hy.1])
    simp only [List.length_append,List.length_cons,List.length_nil]
    omega
noncomputable def hds (b:Bk) (steps:List Nat):List Nat:=steps.map fun i=>(b.rules.getD i ⟨0,[]⟩).head
theorem Way.known {b:Bk} {held:Nat} {steps:List Nat} {known:Nat} (h:Way b held steps known):known=held|||maskN (hds b steps):=by
  induction h with
  | nil=>show held=held|||0;simp
  | snoc _ hr hb _ ih =>
    rename_i st kn i r _ _
    have e:(b.rules.getD i ⟨0,[]⟩)=r:=by simp [hr]
    have e2:maskN (hds b (st++[i]))=maskN (hds b st)|||2 ^ r.head:=by
      unfold hds maskN
      rw [List.map_append,List.foldl_append]
      simp only [List.map_cons,List.map_nil,List.foldl_cons,List.foldl_nil,e]
    rw [e2,ih,Nat.or_assoc]
theorem Way.lt {b:Bk} {held:Nat} {steps:List Nat} {known:Nat} (h:Way b held steps known):∀ i∈steps,i < b.rules.length:=by
  induction h with
  | nil=>simp
  | snoc _ hr hb _ ih =>
    intro i hi
    rcases List.mem_append.mp hi with h | h
    · exact ih i h
    · rw [List.mem_singleton.mp h];exact (List.getElem?_eq_some_iff.mp hr).1
theorem whileL_by {t:PEnv→Option Bool} {b:MSt} {Post:PEnv→Prop} (I:Nat→PEnv→Prop)
    (step:∀ n γ,I n γ→(t γ=some false∧Post γ)∨(t γ=some true∧∃ γ2 m,b γ=some (.nx γ2)∧m < n∧I m γ2)) :
    ∀ (N n:Nat) (γ:PEnv),I n γ→n < N→∃ γ',whileL t b N γ=some (.nx γ')∧Post γ'
  | 0,_,_,_,h=>by omega
  | N + 1,n,γ,hI,hn=>by
    rcases step n γ hI with ⟨ht,hp⟩ | ⟨ht,γ2,m,hb,hm,h2⟩
    · exact ⟨γ,by unfold whileL;rw [ht];rfl,hp⟩
    · refine x1_2 (whileL_by I step N m γ2 h2 (by omega)) fun γ' e p => ?_
      exact ⟨γ',by unfold whileL;rw [ht,Option.bind_some,if_pos rfl,hb];exact e,p⟩
theorem enc_ix0 (b:Bk):pIx b.enc (pN 0)=some (pN b.words):=rfl
theorem enc_ix1 (b:Bk):pIx b.enc (pN 1)=some (.tup (encN b.banes)):=rfl
theorem enc_ix2 (b:Bk):pIx b.enc (pN 2)=some (.tup (b.rules.map Rule.enc)):=rfl
theorem renc_ix0 (r:Rule):pIx r.enc (pN 0)=some (pN r.head):=rfl
theorem renc_ix1 (r:Rule):pIx r.enc (pN 1)=some (.tup (encN r.body)):=rfl
theorem flat_benc (b:Bk):flat b.enc=false:=rfl
theorem flat_renc (r:Rule):flat r.enc=false:=rfl
noncomputable def bmask (b:Bk):List PV:=b.rules.map fun r=>pN (maskN r.body)
theorem zipIdx_map {α β:Type} (f:α→β) (xs:List α):(xs.map f).zipIdx=xs.zipIdx.map fun p=>(f p.1,p.2):=by
  rw [List.zipIdx_map]
  exact List.map_congr_left fun p _=>rfl
noncomputable def look (b:Bk) (held:Nat) (known:Nat) (steps:List Nat) (grown:Bool) (s7 s8 s9:Slot):PEnv :=
  [.fz b.enc,.fz (pN held),.fz (.tup (b.rules.map Rule.enc)),.ow (bmask b),.fz (pN known),.ow (encN steps),.fz (.bl grown),s7,s8,s9]
noncomputable def fires (known:Nat) (r:Rule):Bool := !known.testBit r.head&&r.body.all fun k=>known.testBit k
theorem turn_b1 {b:Bk} (ok:b.Ok) {held known i:Nat} {steps:List Nat} {grown:Bool} {s9:Slot} {r:Rule} (hi:b.rules[i]?=some r) (hs:steps.length≤100) :
    ∃ s7 s8 s9',b1_bringing_steps (look b held known steps grown (.fz (pN i)) (.fz r.enc) s9)=some (.nx (match fires known r with
      | true=>look b held (known|||2 ^ r.head) (steps++[i]) true s7 s8 s9' | false=>look b held known steps grown s7 s8 s9')):=by
  have hm:=List.mem_of_getElem? hi
  have hh:=(ok.hd r hm).2
  have hw:=ok.w60
  refine ⟨.fz (pN i),.fz r.enc,.fz (pN (2 ^ r.head)),?_⟩
  unfold b1_bringing_steps look fires
  (try simp (disch:=first | assumption | omega | (simp only [encN_len,encN_len,List.length_map,List.length_range,List.length_cons,List.length_nil,List.length_append];omega) | decide) only [encN_len,encN_flat,enc_ix0,enc_ix1,enc_ix2,renc_ix0,renc_ix1,flat_benc,flat_renc,e_inside,EVc,List.length_cons,List.length_nil,if_true,List.map_cons,List.map_nil,List.replicate_zero,List.replicate_succ,List.cons_append,List.nil_append,List.getElem?_cons_zero,List.getElem?_cons_succ,Option.bind_some,Option.map_some,List.set_cons_zero,List.set_cons_succ,List.length_map,List.length_range,List.all_nil,List.all_cons,List.length_append])
  rw [insB_pow]
  cases hk:known.testBit r.head with
  | true=>(try simp (disch:=first | assumption | omega | (simp only [encN_len,encN_len,List.length_map,List.length_range,List.length_cons,List.length_nil,List.length_append];omega) | decide) only [encN_len,encN_flat,enc_ix0,enc_ix1,enc_ix2,renc_ix0,renc_ix1,flat_benc,flat_renc,e_inside,EVc,List.length_cons,List.length_nil,if_true,List.map_cons,List.map_nil,List.replicate_zero,List.replicate_succ,List.cons_append,List.nil_append,List.getElem?_cons_zero,List.getElem?_cons_succ,Option.bind_some,Option.map_some,List.set_cons_zero,List.set_cons_succ,List.length_map,List.length_range,List.all_nil,List.all_cons,List.length_append])
  | false =>
    (try simp (disch:=first | assumption | omega | (simp only [encN_len,encN_len,List.length_map,List.length_range,List.length_cons,List.length_nil,List.length_append];omega) | decide) only [encN_len,encN_flat,enc_ix0,enc_ix1,enc_ix2,renc_ix0,renc_ix1,flat_benc,flat_renc,e_inside,EVc,List.length_cons,List.length_nil,if_true,List.map_cons,List.map_nil,List.replicate_zero,List.replicate_succ,List.cons_append,List.nil_append,List.getElem?_cons_zero,List.getElem?_cons_succ,Option.bind_some,Option.map_some,List.set_cons_zero,List.set_cons_succ,List.length_map,List.length_range,List.all_nil,List.all_cons,List.length_append])
    have e:(bmask b)[i]?=some (pN (maskN r.body)):=by unfold bmask;rw [List.getElem?_map,hi];rfl
    rw [e]
    (try simp (disch:=first | assumption | omega | (simp only [encN_len,encN_len,List.length_map,List.length_range,List.length_cons,List.length_nil,List.length_append];omega) | decide) only [encN_len,encN_flat,enc_ix0,enc_ix1,enc_ix2,renc_ix0,renc_ix1,flat_benc,flat_renc,e_inside,EVc,List.length_cons,List.length_nil,if_true,List.map_cons,List.map_nil,List.replicate_zero,List.replicate_succ,List.cons_append,List.nil_append,List.getElem?_cons_zero,List.getElem?_cons_succ,Option.bind_some,Option.map_some,List.set_cons_zero,List.set_cons_succ,List.length_map,List.length_range,List.all_nil,List.all_cons,List.length_append])
    rw [insB_mask]
    cases hb:r.body.all fun k=>known.testBit k with
    | true =>
      (try simp (disch:=first | assumption | omega | (simp only [encN_len,encN_len,List.length_map,List.length_range,List.length_cons,List.length_nil,List.length_append];omega) | decide) only [encN_len,encN_flat,enc_ix0,enc_ix1,enc_ix2,renc_ix0,renc_ix1,flat_benc,flat_renc,e_inside,EVc,List.length_cons,List.length_nil,if_true,List.map_cons,List.map_nil,List.replicate_zero,List.replicate_succ,List.cons_append,List.nil_append,List.getElem?_cons_zero,List.getElem?_cons_succ,Option.bind_some,Option.map_some,List.set_cons_zero,List.set_cons_succ,List.length_map,List.length_range,List.all_nil,List.all_cons,List.length_append])
      rw [appK_ow (by rw [encN_len];omega) rfl]
      (try simp (disch:=first | assumption | omega | (simp only [encN_len,encN_len,List.length_map,List.length_range,List.length_cons,List.length_nil,List.length_append];omega) | decide) only [encN_len,encN_flat,enc_ix0,enc_ix1,enc_ix2,renc_ix0,renc_ix1,flat_benc,flat_renc,e_inside,EVc,List.length_cons,List.length_nil,if_true,List.map_cons,List.map_nil,List.replicate_zero,List.replicate_succ,List.cons_append,List.nil_append,List.getElem?_cons_zero,List.getElem?_cons_succ,Option.bind_some,Option.map_some,List.set_cons_zero,List.set_cons_succ,List.length_map,List.length_range,List.all_nil,List.all_cons,List.length_append])
      simp [encN]
    | false=>(try simp (disch:=first | assumption | omega | (simp only [encN_len,encN_len,List.length_map,List.length_range,List.length_cons,List.length_nil,List.length_append];omega) | decide) only [encN_len,encN_flat,enc_ix0,enc_ix1,enc_ix2,renc_ix0,renc_ix1,flat_benc,flat_renc,e_inside,EVc,List.length_cons,List.length_nil,if_true,List.map_cons,List.map_nil,List.replicate_zero,List.replicate_succ,List.cons_append,List.nil_append,List.getElem?_cons_zero,List.getElem?_cons_succ,Option.bind_some,Option.map_some,List.set_cons_zero,List.set_cons_succ,List.length_map,List.length_range,List.all_nil,List.all_cons,List.length_append])
theorem fires_iff {known:Nat} {r:Rule}:fires known r=true↔known.testBit r.head=false∧∀ x∈r.body,known.testBit x=true:=by
  unfold fires
  simp
theorem round_b2 {b:Bk} (ok:b.Ok) {held known:Nat} {steps:List Nat} {grown:Bool} {s7 s8 s9:Slot} (w:Way b held steps known) :
    ∃ known' steps' grown' s7' s8' s9',b2_bringing_steps (look b held known steps grown s7 s8 s9)=some (.nx (look b held known' steps' grown' s7' s8' s9'))∧Way b held steps' known' ∧
      (grown'=false→Closed b known')∧(grown'=true→steps.length < steps'.length)∧steps.length≤steps'.length:=by
  unfold b2_bringing_steps look
  (try simp (disch:=first | assumption | omega | (simp only [encN_len,encN_len,List.length_map,List.length_range,List.length_cons,List.length_nil,List.length_append];omega) | decide) only [encN_len,encN_flat,enc_ix0,enc_ix1,enc_ix2,renc_ix0,renc_ix1,flat_benc,flat_renc,e_inside,EVc,List.length_cons,List.length_nil,if_true,List.map_cons,List.map_nil,List.replicate_zero,List.replicate_succ,List.cons_append,List.nil_append,List.getElem?_cons_zero,List.getElem?_cons_succ,Option.bind_some,Option.map_some,List.set_cons_zero,List.set_cons_succ,List.length_map,List.length_range,List.all_nil,List.all_cons,List.length_append])
  rw [zipIdx_map,List.map_map]
  obtain ⟨γ',e,known',steps',grown',t7,t8,t9,rfl,h1,h2,h3,h4⟩:=forL_pre (g:=gSet2 7 8) (b:=b1_bringing_steps) (fun (p:Rule×Nat)=>PV.tup [pN p.2,p.1.enc])
    (fun pre γ=>∃ known' steps' grown' t7 t8 t9,γ=look b held known' steps' grown' t7 t8 t9∧Way b held steps' known'∧steps.length≤steps'.length ∧
      (grown'=false→∀ p∈pre,fires known' p.1=false)∧(grown'=true→steps.length < steps'.length))
    b.rules.zipIdx b.rules.zipIdx [] (look b held known steps false s7 s8 s9) rfl ⟨known,steps,false,s7,s8,s9,rfl,w,Nat.le_refl _,by simp,by simp⟩ (by
      rintro pre p post γ hpre ⟨kn,st,gr,t7,t8,t9,rfl,h1,h2,h3,h4⟩
      have hp:p∈b.rules.zipIdx:=by rw [← hpre];simp
      have hi:b.rules[p.2]?=some p.1:=by
        have:=List.mem_zipIdx_iff_getElem?.mp hp
        simpa using this
      have hl:=h1.left
      have hr:=ok.r40
      refine xq fun _ kq=>?_
      refine x3_1 (turn_b1 ok (held:=held) (known:=kn) (steps:=st) (grown:=gr) (s9:=t9) hi (by omega)) fun u7 u8 u9 e => ?_
      apply kq
      refine ⟨_,_,rfl,e,?_⟩
      cases hf:fires kn p.1 with
      | true =>
        obtain ⟨f1,f2⟩:=fires_iff.mp hf
        refine ⟨_,_,_,_,_,_,rfl,h1.snoc hi f2 f1,by simp;omega,by simp,fun _=>by simp;omega⟩
      | false =>
        refine ⟨_,_,_,_,_,_,rfl,h1,h2,fun hg q hq => ?_,h4⟩
        rcases List.mem_append.mp hq with z | z
        · exact h3 hg q z
        · rw [List.mem_singleton.mp z];exact hf)
  unfold look at e
  refine ⟨known',steps',grown',t7,t8,t9,?_,h1,fun hg r hr hb => ?_,h4,h2⟩
  · exact e
  · obtain ⟨i,hi,hri⟩:=List.mem_iff_getElem.mp hr
    have:=h3 hg (r,i) (List.mem_zipIdx_iff_getElem?.mpr (by simp [hi,hri]))
    cases hk:known'.testBit r.head with
    | true=>rfl
    | false =>
      have:=fires_iff.mpr ⟨hk,hb⟩
      simp_all
theorem e_bringing {b:Bk} (ok:b.Ok) (held:Nat):∃ steps known,r_bringing_steps [b.enc,pN held]=some (.lst (encN steps))∧Way b held steps known∧Closed b known:=by
  unfold r_bringing_steps d_bringing_steps
  have hr:=ok.r40
  have hw:=ok.w60
  (try simp (disch:=first | assumption | omega | (simp only [encN_len,encN_len,List.length_map,List.length_range,List.length_cons,List.length_nil,List.length_append];omega) | decide) only [encN_len,encN_flat,enc_ix0,enc_ix1,enc_ix2,renc_ix0,renc_ix1,flat_benc,flat_renc,e_inside,EVc,List.length_cons,List.length_nil,if_true,List.map_cons,List.map_nil,List.replicate_zero,List.replicate_succ,List.cons_append,List.nil_append,List.getElem?_cons_zero,List.getElem?_cons_succ,Option.bind_some,Option.map_some,List.set_cons_zero,List.set_cons_succ,List.length_map,List.length_range,List.all_nil,List.all_cons,List.length_append])
  rw [compL_all Rule.enc (fun r=>pN (maskN r.body)) b.rules fun r hr=>⟨_,rfl,?_⟩]
  · have fl:(b.rules.map fun r=>pN (maskN r.body)).all flat=true:=by rw [List.all_map,List.all_eq_true];exact fun _ _=>rfl
    rw [Option.map_some,fl]
    (try simp (disch:=first | assumption | omega | (simp only [encN_len,encN_len,List.length_map,List.length_range,List.length_cons,List.length_nil,List.length_append];omega) | decide) only [encN_len,encN_flat,enc_ix0,enc_ix1,enc_ix2,renc_ix0,renc_ix1,flat_benc,flat_renc,e_inside,EVc,List.length_cons,List.length_nil,if_true,List.map_cons,List.map_nil,List.replicate_zero,List.replicate_succ,List.cons_append,List.nil_append,List.getElem?_cons_zero,List.getElem?_cons_succ,Option.bind_some,Option.map_some,List.set_cons_zero,List.set_cons_succ,List.length_map,List.length_range,List.all_nil,List.all_cons,List.length_append])
    obtain ⟨γ',e,known,steps,s7,s8,s9,rfl,h1,h2⟩:=whileL_by (t:=mTru (mVar 6)) (b:=b2_bringing_steps)
      (Post:=fun γ=>∃ known steps s7 s8 s9,γ=look b held known steps false s7 s8 s9∧Way b held steps known∧Closed b known)
      (fun n γ=>∃ known steps grown s7 s8 s9,γ=look b held known steps grown s7 s8 s9∧Way b held steps known∧(grown=false→Closed b known)∧n=2 * (b.rules.length + 1 - steps.length) + (if grown=true then 1 else 0))
      (by
        rintro n γ ⟨known,steps,grown,s7,s8,s9,rfl,h1,h2,rfl⟩
        have hl:=h1.left
        cases grown with
        | false =>
          refine .inl ⟨?_,known,steps,s7,s8,s9,rfl,h1,h2 rfl⟩
          unfold look
          (try simp (disch:=first | assumption | omega | (simp only [encN_len,encN_len,List.length_map,List.length_range,List.length_cons,List.length_nil,List.length_append];omega) | decide) only [encN_len,encN_flat,enc_ix0,enc_ix1,enc_ix2,renc_ix0,renc_ix1,flat_benc,flat_renc,e_inside,EVc,List.length_cons,List.length_nil,if_true,List.map_cons,List.map_nil,List.replicate_zero,List.replicate_succ,List.cons_append,List.nil_append,List.getElem?_cons_zero,List.getElem?_cons_succ,Option.bind_some,Option.map_some,List.set_cons_zero,List.set_cons_succ,List.length_map,List.length_range,List.all_nil,List.all_cons,List.length_append])
        | true =>
          refine .inr ⟨?_,?_⟩
          · unfold look
            (try simp (disch:=first | assumption | omega | (simp only [encN_len,encN_len,List.length_map,List.length_range,List.length_cons,List.length_nil,List.length_append];omega) | decide) only [encN_len,encN_flat,enc_ix0,enc_ix1,enc_ix2,renc_ix0,renc_ix1,flat_benc,flat_renc,e_inside,EVc,List.length_cons,List.length_nil,if_true,List.map_cons,List.map_nil,List.replicate_zero,List.replicate_succ,List.cons_append,List.nil_append,List.getElem?_cons_zero,List.getElem?_cons_succ,Option.bind_some,Option.map_some,List.set_cons_zero,List.set_cons_succ,List.length_map,List.length_range,List.all_nil,List.all_cons,List.length_append])
          · refine xq fun _ kq=>?_
            refine x6_5 (round_b2 ok (grown:=true) (s7:=s7) (s8:=s8) (s9:=s9) h1) fun kn st gr t7 t8 t9 e w c l l2 => ?_
            apply kq
            have hl2:=w.left
            cases gr with
            | true=>exact ⟨_,_,e,by have:=l rfl;simp;omega,kn,st,true,t7,t8,t9,rfl,w,c,rfl⟩
            | false=>exact ⟨_,_,e,by simp;omega,kn,st,false,t7,t8,t9,rfl,w,c,rfl⟩)
      1000 (2 * (b.rules.length + 1) + 1) (look b held held [] true .un .un .un) ⟨held,[],true,.un,.un,.un,rfl,.nil,by simp,by simp⟩ (by omega)
    unfold look at e
    refine ⟨steps,known,?_,h1,h2⟩
    unfold sWhile
    rw [show bmask b=b.rules.map fun r=>pN (maskN r.body) from rfl,show encN []=[] from rfl] at e
    rw [e]
    (try simp (disch:=first | assumption | omega | (simp only [encN_len,encN_len,List.length_map,List.length_range,List.length_cons,List.length_nil,List.length_append];omega) | decide) only [encN_len,encN_flat,enc_ix0,enc_ix1,enc_ix2,renc_ix0,renc_ix1,flat_benc,flat_renc,e_inside,EVc,List.length_cons,List.length_nil,if_true,List.map_cons,List.map_nil,List.replicate_zero,List.replicate_succ,List.cons_append,List.nil_append,List.getElem?_cons_zero,List.getElem?_cons_succ,Option.bind_some,Option.map_some,List.set_cons_zero,List.set_cons_succ,List.length_map,List.length_range,List.all_nil,List.all_cons,List.length_append])
  · have:=(ok.bd r hr).2
    (try simp (disch:=first | assumption | omega | (simp only [encN_len,encN_len,List.length_map,List.length_range,List.length_cons,List.length_nil,List.length_append];omega) | decide) only [encN_len,encN_flat,enc_ix0,enc_ix1,enc_ix2,renc_ix0,renc_ix1,flat_benc,flat_renc,e_inside,EVc,List.length_cons,List.length_nil,if_true,List.map_cons,List.map_nil,List.replicate_zero,List.replicate_succ,List.cons_append,List.nil_append,List.getElem?_cons_zero,List.getElem?_cons_succ,Option.bind_some,Option.map_some,List.set_cons_zero,List.set_cons_succ,List.length_map,List.length_range,List.all_nil,List.all_cons,List.length_append])
    rw [e_mask_t fun k hk=>by have:=this k hk;omega]
noncomputable def yl (b:Bk) (held:Nat):Nat:=Classical.epsilon (IsYl b held)
theorem way_ex {b:Bk} {held:Nat}:∀ (n:Nat) (steps:List Nat) (known:Nat),Way b held steps known→b.rules.length - steps.length=n→∃ steps' known',Way b held steps' known'∧Closed b known':=by
  intro n
  induction n with
  | zero =>
    intro steps known h hn
    refine ⟨steps,known,h,fun r hr hb=>Classical.byContradiction fun hc => ?_⟩
    obtain ⟨i,hi⟩:=List.getElem?_of_mem hr
    have:=(Way.snoc h hi hb (by simpa using hc)).left
    simp only [List.length_append,List.length_cons,List.length_nil] at this
    omega
  | succ n ih =>
    intro steps known h hn
    by_cases hc:Closed b known
    · exact ⟨steps,known,h,hc⟩
    · refine xq fun _ kq=>?_
      obtain ⟨r,hr⟩:=Classical.not_forall.mp hc
      obtain ⟨hr,hr2⟩:=Classical.not_imp.mp hr
      obtain ⟨hb,hh⟩:=Classical.not_imp.mp hr2
      apply kq
      obtain ⟨i,hi⟩:=List.getElem?_of_mem hr
      exact ih _ _ (Way.snoc h hi hb (by simpa using hh)) (by simp only [List.length_append,List.length_cons,List.length_nil];omega)
theorem yl_is {b:Bk} (ok:b.Ok) (held:Nat):IsYl b held (yl b held):=by
  refine xq fun _ kq=>?_
  obtain ⟨steps,known,h1,h2⟩:=way_ex _ [] held .nil rfl
  apply kq
  exact Classical.epsilon_spec (p:=IsYl b held) ⟨known,.of h1 h2⟩
theorem yl_eq {b:Bk} (ok:b.Ok) {held known:Nat} (h:IsYl b held known):known=yl b held:=h.unique (yl_is ok held)
theorem hds_lt {b:Bk} (ok:b.Ok) {steps:List Nat} (h:∀ i∈steps,i < b.rules.length):∀ k∈hds b steps,k < b.words:=by
  intro k hk
  refine x1_2 (List.mem_map.mp hk) fun i hi zq1 => ?_
  obtain rfl:=zq1
  have:=h i hi
  have e:b.rules.getD i ⟨0,[]⟩=b.rules[i]:=by simp [this]
  rw [e]
  exact (ok.hd _ (List.getElem_mem this)).2
theorem e_known_after {b:Bk} (ok:b.Ok) {held known:Nat} {steps:List Nat} (w:Way b held steps known):r_known_after [b.enc,pN held,.lst (encN steps)]=some (pN known):=by
  have hl:=w.left
  have hr:=ok.r40
  have hw:=ok.w60
  unfold r_known_after d_known_after
  (try simp (disch:=first | assumption | omega | (simp only [encN_len,encN_len,List.length_map,List.length_range,List.length_cons,List.length_nil,List.length_append];omega) | decide) only [encN_len,encN_flat,enc_ix0,enc_ix1,enc_ix2,renc_ix0,renc_ix1,flat_benc,flat_renc,e_inside,EVc,List.length_cons,List.length_nil,if_true,List.map_cons,List.map_nil,List.replicate_zero,List.replicate_succ,List.cons_append,List.nil_append,List.getElem?_cons_zero,List.getElem?_cons_succ,Option.bind_some,Option.map_some,List.set_cons_zero,List.set_cons_succ,List.length_map,List.length_range,List.all_nil,List.all_cons,List.length_append])
  rw [show encN steps=steps.map pN from rfl,compL_all pN (fun i=>pN (b.rules.getD i ⟨0,[]⟩).head) steps fun i hi=>⟨_,rfl,?_⟩]
  · rw [show (steps.map fun i=>pN (b.rules.getD i ⟨0,[]⟩).head)=encN (hds b steps) by unfold encN hds;rw [List.map_map];rfl]
    (try simp (disch:=first | assumption | omega | (simp only [encN_len,encN_len,List.length_map,List.length_range,List.length_cons,List.length_nil,List.length_append];omega) | decide) only [encN_len,encN_flat,enc_ix0,enc_ix1,enc_ix2,renc_ix0,renc_ix1,flat_benc,flat_renc,e_inside,EVc,List.length_cons,List.length_nil,if_true,List.map_cons,List.map_nil,List.replicate_zero,List.replicate_succ,List.cons_append,List.nil_append,List.getElem?_cons_zero,List.getElem?_cons_succ,Option.bind_some,Option.map_some,List.set_cons_zero,List.set_cons_succ,List.length_map,List.length_range,List.all_nil,List.all_cons,List.length_append])
    rw [e_mask_l fun k hk=>by have:=hds_lt ok w.lt k hk;omega]
    (try simp (disch:=first | assumption | omega | (simp only [encN_len,encN_len,List.length_map,List.length_range,List.length_cons,List.length_nil,List.length_append];omega) | decide) only [encN_len,encN_flat,enc_ix0,enc_ix1,enc_ix2,renc_ix0,renc_ix1,flat_benc,flat_renc,e_inside,EVc,List.length_cons,List.length_nil,if_true,List.map_cons,List.map_nil,List.replicate_zero,List.replicate_succ,List.cons_append,List.nil_append,List.getElem?_cons_zero,List.getElem?_cons_succ,Option.bind_some,Option.map_some,List.set_cons_zero,List.set_cons_succ,List.length_map,List.length_range,List.all_nil,List.all_cons,List.length_append])
    rw [← w.known]
  · have hi:=w.lt i hi
    have e:b.rules[i]?=some (b.rules.getD i ⟨0,[]⟩):=by simp [hi]
    (try simp (disch:=first | assumption | omega | (simp only [encN_len,encN_len,List.length_map,List.length_range,List.length_cons,List.length_nil,List.length_append];omega) | decide) only [encN_len,encN_flat,enc_ix0,enc_ix1,enc_ix2,renc_ix0,renc_ix1,flat_benc,flat_renc,e_inside,EVc,List.length_cons,List.length_nil,if_true,List.map_cons,List.map_nil,List.replicate_zero,List.replicate_succ,List.cons_append,List.nil_append,List.getElem?_cons_zero,List.getElem?_cons_succ,Option.bind_some,Option.map_some,List.set_cons_zero,List.set_cons_succ,List.length_map,List.length_range,List.all_nil,List.all_cons,List.length_append])
    rw [List.getElem?_map,e]
    (try simp (disch:=first | assumption | omega | (simp only [encN_len,encN_len,List.length_map,List.length_range,List.length_cons,List.length_nil,List.length_append];omega) | decide) only [encN_len,encN_flat,enc_ix0,enc_ix1,enc_ix2,renc_ix0,renc_ix1,flat_benc,flat_renc,e_inside,EVc,List.length_cons,List.length_nil,if_true,List.map_cons,List.map_nil,List.replicate_zero,List.replicate_succ,List.cons_append,List.nil_append,List.getElem?_cons_zero,List.getElem?_cons_succ,Option.bind_some,Option.map_some,List.set_cons_zero,List.set_cons_succ,List.length_map,List.length_range,List.all_nil,List.all_cons,List.length_append])
theorem e_yielded {b:Bk} (ok:b.Ok) (held:Nat):r_yielded [b.enc,pN held]=some (pN (yl b held)):=by
  refine xq fun _ kq=>?_
  refine x2_3 (e_bringing ok held) fun steps known e h1 h2 => ?_
  apply kq
  have:=yl_eq ok (.of h1 h2)
  subst this
  unfold r_yielded d_yielded
  (try simp (disch:=first | assumption | omega | (simp only [encN_len,encN_len,List.length_map,List.length_range,List.length_cons,List.length_nil,List.length_append];omega) | decide) only [encN_len,encN_flat,enc_ix0,enc_ix1,enc_ix2,renc_ix0,renc_ix1,flat_benc,flat_renc,e_inside,EVc,List.length_cons,List.length_nil,if_true,List.map_cons,List.map_nil,List.replicate_zero,List.replicate_succ,List.cons_append,List.nil_append,List.getElem?_cons_zero,List.getElem?_cons_succ,Option.bind_some,Option.map_some,List.set_cons_zero,List.set_cons_succ,List.length_map,List.length_range,List.all_nil,List.all_cons,List.length_append])
  rw [e]
  (try simp (disch:=first | assumption | omega | (simp only [encN_len,encN_len,List.length_map,List.length_range,List.length_cons,List.length_nil,List.length_append];omega) | decide) only [encN_len,encN_flat,enc_ix0,enc_ix1,enc_ix2,renc_ix0,renc_ix1,flat_benc,flat_renc,e_inside,EVc,List.length_cons,List.length_nil,if_true,List.map_cons,List.map_nil,List.replicate_zero,List.replicate_succ,List.cons_append,List.nil_append,List.getElem?_cons_zero,List.getElem?_cons_succ,Option.bind_some,Option.map_some,List.set_cons_zero,List.set_cons_succ,List.length_map,List.length_range,List.all_nil,List.all_cons,List.length_append])
  rw [e_known_after ok h1]
  (try simp (disch:=first | assumption | omega | (simp only [encN_len,encN_len,List.length_map,List.length_range,List.length_cons,List.length_nil,List.length_append];omega) | decide) only [encN_len,encN_flat,enc_ix0,enc_ix1,enc_ix2,renc_ix0,renc_ix1,flat_benc,flat_renc,e_inside,EVc,List.length_cons,List.length_nil,if_true,List.map_cons,List.map_nil,List.replicate_zero,List.replicate_succ,List.cons_append,List.nil_append,List.getElem?_cons_zero,List.getElem?_cons_succ,Option.bind_some,Option.map_some,List.set_cons_zero,List.set_cons_succ,List.length_map,List.length_range,List.all_nil,List.all_cons,List.length_append])
noncomputable def asc (ns:List Nat):List Nat:=(isort (once (ns.map fun (k:Nat)=>(k:Int)))).map Int.toNat
noncomputable def RuleOk (g w:Nat) (r:Rule):Prop:=g≤r.head∧r.head < w∧r.body.Pairwise (· < ·)∧r.body.length≤6∧∀ x∈r.body,x < w
theorem depL_encN:∀ xs:List Nat,depL (encN xs)=0
  | []=>by simp [encN,depL]
  | x :: xs=>by
    have:=depL_encN xs
    unfold encN at *
    rw [List.map_cons]
    unfold depL
    rw [this]
    simp [pN,dep]
theorem okSL_encN:∀ xs:List Nat,okSL (encN xs)=true
  | []=>by simp [encN,okSL]
  | x :: xs=>by
    have:=okSL_encN xs
    unfold encN at *
    rw [List.map_cons]
    unfold okSL
    rw [this]
    simp [pN,okS]
theorem okv_encL (xs:List Nat):okv (.lst (encN xs))=true:=by
  simp [okv,dep,okS,depL_encN,okSL_encN]
theorem okv_rule (r:Rule):okv r.enc=true:=by
  unfold Rule.enc
  simp [okv,dep,depL,okS,okSL,depL_encN,okSL_encN,pN]
theorem okv_rules (rs:List Rule):(rs.map Rule.enc).all okv=true:=by
  rw [List.all_map,List.all_eq_true]
  exact fun r _=>okv_rule r
theorem notIn_rule (r:Rule) (rs:List Rule):∃ b,pNotIn r.enc (.lst (rs.map Rule.enc))=some (.bl b):=by
  have e:pIn r.enc (.lst (rs.map Rule.enc))=if okv r.enc=true∧(rs.map Rule.enc).all okv=true then some (.bl ((rs.map Rule.enc).any fun y=>peq y r.enc)) else none:=rfl
  exact ⟨_,pNotIn_of (e.trans (if_pos ⟨okv_rule r,okv_rules rs⟩))⟩
theorem Bk.Ok.of {w:Nat} {banes:List Nat} {rules:List Rule} (h8:banes.length≤8) (hgw:banes.length≤w) (hw:w≤60) (hb:∀ x∈banes,x < w) (hr:∀ r∈rules,RuleOk banes.length w r) (hl:rules.length≤40):(⟨w,banes,rules⟩:Bk).Ok :=
  ⟨h8,hgw,hw,by show rules.length≤48;omega,hb,fun r h=>⟨(hr r h).1,(hr r h).2.1⟩,fun r h=>⟨(hr r h).2.2.1,(hr r h).2.2.2.2⟩⟩
theorem peq_nil (xs:List PV):peq (.lst xs) (.lst [])=xs.isEmpty:=by
  cases xs <;> simp [peq,peqL]
noncomputable def tr (w known:Nat):List PV:=(List.range w).map fun k => .bl (known.testBit k)
theorem tr_len (w known:Nat):(tr w known).length=w:=by unfold tr;rw [List.length_map,List.length_range]
theorem tr_get {w known k:Nat} (h:k < w):(tr w known)[k]?=some (.bl (known.testBit k)):=by
  unfold tr
  rw [List.getElem?_map,List.getElem?_range h]
  rfl
theorem tr_set (w known k:Nat):(tr w known).set k (.bl true)=tr w (known|||2 ^ k):=by
  refine List.ext_getElem? fun j => ?_
  by_cases hj:j < w
  · rw [tr_get hj,testBit_or_pow]
    by_cases h:k=j
    · subst h
      rw [List.getElem?_set_self (by rw [tr_len];exact hj)]
      simp
    · rw [List.getElem?_set_ne h,tr_get hj]
      simp [h]
  · rw [List.getElem?_eq_none (by rw [List.length_set,tr_len];omega),List.getElem?_eq_none (by rw [tr_len];omega)]
theorem tr_flat (w known:Nat):(tr w known).all flat=true:=by
  unfold tr
  rw [List.all_map,List.all_eq_true]
  exact fun _ _=>rfl
theorem testBit_one (m k:Nat):(m / 2 ^ k&&&1==1)=m.testBit k:=by
  rw [Nat.and_one_is_mod]
  exact testBit_mod m k
theorem testBit_zero' (m k:Nat):(m / 2 ^ k&&&1==0) = !m.testBit k:=by
  rw [← testBit_one,Nat.and_one_is_mod]
  have:m / 2 ^ k % 2 < 2:=Nat.mod_lt _ (by decide)
  have:m / 2 ^ k % 2=0∨m / 2 ^ k % 2=1:=by omega
  rcases this with h | h <;> rw [h] <;> rfl
noncomputable def lk2 (b:Bk) (held known:Nat) (grown:Bool) (s4 s5:Slot):PEnv :=
  [.fz b.enc,.fz (pN held),.ow (tr b.words known),.fz (.bl grown),s4,s5]
theorem body_len {b:Bk} (ok:b.Ok) {r:Rule} (hr:r∈b.rules):r.body.length≤1000:=by
  have hb:=ok.bd r hr
  have hw:=ok.w60
  have key:∀ (row:List Nat) (lo n:Nat),row.Pairwise (· < ·)→(∀ x∈row,lo≤x∧x < n)→row.length≤n - lo:=by
    intro row
    induction row with
    | nil=>intros;simp
    | cons x r ih =>
      intro lo n hp h
      rw [List.pairwise_cons] at hp
      have:=ih (x + 1) n hp.2 fun y hy=>⟨hp.1 y hy,(h y (by simp [hy])).2⟩
      have:=h x (by simp)
      simp only [List.length_cons]
      omega
  have:=key r.body 0 b.words hb.1 fun x hx=>⟨Nat.zero_le _,hb.2 x hx⟩
  omega
noncomputable def hitL (b:Bk) (known:Nat):List Nat:=(List.range b.banes.length).filter fun g=>known.testBit (b.banes.getD g 0)
noncomputable def stk (b:Bk) (held:Nat):Nat:=maskN (hitL b (yl b held))
theorem enumN (xs:List Nat):((encN xs).zipIdx.map fun x=>PV.tup [pN x.2,x.1])=(List.range xs.length).map fun g=>PV.tup [pN g,pN (xs.getD g 0)]:=by
  refine List.ext_getElem? fun j => ?_
  rw [List.getElem?_map,List.getElem?_map,List.getElem?_zipIdx]
  by_cases h:j < xs.length
  · rw [List.getElem?_range h]
    unfold encN
    rw [List.getElem?_map]
    simp [h]
  · rw [List.getElem?_eq_none (by unfold encN;simp;omega),List.getElem?_eq_none (by simp;omega)]
    rfl
theorem compL_flt {α:Type} {g:PV→PEnv→Option PEnv} {t:PEnv→Option Bool} {e:MEx} {γ:PEnv} (f:α→PV) (p:α→Bool) (y:α→PV):∀ (xs:List α),(∀ x∈xs,∃ γ1,g (f x) γ=some γ1∧t γ1=some (p x)∧(p x=true→e γ1=some (y x))) →
    compL g t e γ (xs.map f)=some ((xs.filter p).map y)
  | [],_=>rfl
  | x :: xs,h=>by
    refine xq fun _ kq=>?_
    refine x1_3 (h x (by simp)) fun γ1 h1 h2 h3 => ?_
    apply kq
    have ih:=compL_flt f p y xs fun z hz=>h z (by simp [hz])
    rw [List.map_cons]
    unfold compL
    rw [h1,Option.bind_some,h2,Option.bind_some]
    cases hp:p x with
    | true =>
      rw [List.filter_cons_of_pos hp,h3 hp,ih]
      rfl
    | false =>
      rw [List.filter_cons_of_neg (by simp [hp])]
      simp [ih]
theorem hitL_lt {b:Bk} {k g:Nat} (h:g∈hitL b k):g < b.banes.length:=List.mem_range.mp (List.mem_filter.mp h).1
theorem bane_lt {b:Bk} (ok:b.Ok) {g:Nat} (h:g < b.banes.length):b.banes.getD g 0 < b.words:=by
  have:b.banes.getD g 0=b.banes[g]:=by simp [h]
  rw [this]
  exact ok.bane _ (List.getElem_mem h)
theorem e_struck {b:Bk} (ok:b.Ok) (held:Nat):r_struck [b.enc,pN held]=some (pN (stk b held)):=by
  unfold r_struck d_struck
  have h8:=ok.g8
  have hw:=ok.w60
  (try simp (disch:=first | assumption | omega | (simp only [encN_len,tr_len,encN_len,List.length_map,List.length_range,List.length_cons,List.length_nil,List.length_append];omega) | decide) only [encN_len,encN_flat,enc_ix0,enc_ix1,enc_ix2,renc_ix0,renc_ix1,flat_benc,flat_renc,e_inside,tr_get,tr_flat,tr_set,testBit_one,EVc,List.length_cons,List.length_nil,if_true,List.map_cons,List.map_nil,List.replicate_zero,List.replicate_succ,List.cons_append,List.nil_append,List.getElem?_cons_zero,List.getElem?_cons_succ,Option.bind_some,Option.map_some,List.set_cons_zero,List.set_cons_succ,List.length_map,List.length_range,List.all_nil,List.all_cons,List.length_append])
  rw [e_yielded ok]
  (try simp (disch:=first | assumption | omega | (simp only [encN_len,tr_len,encN_len,List.length_map,List.length_range,List.length_cons,List.length_nil,List.length_append];omega) | decide) only [encN_len,encN_flat,enc_ix0,enc_ix1,enc_ix2,renc_ix0,renc_ix1,flat_benc,flat_renc,e_inside,tr_get,tr_flat,tr_set,testBit_one,EVc,List.length_cons,List.length_nil,if_true,List.map_cons,List.map_nil,List.replicate_zero,List.replicate_succ,List.cons_append,List.nil_append,List.getElem?_cons_zero,List.getElem?_cons_succ,Option.bind_some,Option.map_some,List.set_cons_zero,List.set_cons_succ,List.length_map,List.length_range,List.all_nil,List.all_cons,List.length_append])
  rw [enumN]
  (try simp (disch:=first | assumption | omega | (simp only [encN_len,tr_len,encN_len,List.length_map,List.length_range,List.length_cons,List.length_nil,List.length_append];omega) | decide) only [encN_len,encN_flat,enc_ix0,enc_ix1,enc_ix2,renc_ix0,renc_ix1,flat_benc,flat_renc,e_inside,tr_get,tr_flat,tr_set,testBit_one,EVc,List.length_cons,List.length_nil,if_true,List.map_cons,List.map_nil,List.replicate_zero,List.replicate_succ,List.cons_append,List.nil_append,List.getElem?_cons_zero,List.getElem?_cons_succ,Option.bind_some,Option.map_some,List.set_cons_zero,List.set_cons_succ,List.length_map,List.length_range,List.all_nil,List.all_cons,List.length_append])
  rw [compL_flt (fun g=>PV.tup [pN g,pN (b.banes.getD g 0)]) (fun g=>(yl b held).testBit (b.banes.getD g 0)) pN (List.range b.banes.length) fun g hg=>⟨_,rfl,?_,fun _=>rfl⟩]
  · rw [show (((List.range b.banes.length).filter fun g=>(yl b held).testBit (b.banes.getD g 0)).map pN)=encN (hitL b (yl b held)) from rfl]
    (try simp (disch:=first | assumption | omega | (simp only [encN_len,tr_len,encN_len,List.length_map,List.length_range,List.length_cons,List.length_nil,List.length_append];omega) | decide) only [encN_len,encN_flat,enc_ix0,enc_ix1,enc_ix2,renc_ix0,renc_ix1,flat_benc,flat_renc,e_inside,tr_get,tr_flat,tr_set,testBit_one,EVc,List.length_cons,List.length_nil,if_true,List.map_cons,List.map_nil,List.replicate_zero,List.replicate_succ,List.cons_append,List.nil_append,List.getElem?_cons_zero,List.getElem?_cons_succ,Option.bind_some,Option.map_some,List.set_cons_zero,List.set_cons_succ,List.length_map,List.length_range,List.all_nil,List.all_cons,List.length_append])
    rw [e_mask_l fun k hk=>by have:=hitL_lt hk;omega]
    rfl
  · have:=bane_lt ok (List.mem_range.mp hg)
    (try simp (disch:=first | assumption | omega | (simp only [encN_len,tr_len,encN_len,List.length_map,List.length_range,List.length_cons,List.length_nil,List.length_append];omega) | decide) only [encN_len,encN_flat,enc_ix0,enc_ix1,enc_ix2,renc_ix0,renc_ix1,flat_benc,flat_renc,e_inside,tr_get,tr_flat,tr_set,testBit_one,EVc,List.length_cons,List.length_nil,if_true,List.map_cons,List.map_nil,List.replicate_zero,List.replicate_succ,List.cons_append,List.nil_append,List.getElem?_cons_zero,List.getElem?_cons_succ,Option.bind_some,Option.map_some,List.set_cons_zero,List.set_cons_succ,List.length_map,List.length_range,List.all_nil,List.all_cons,List.length_append])
    rw [insB_pow]
theorem mask_lt (p:Nat→Bool) (j:Nat):maskN ((List.range j).filter p) < 2 ^ j:=by
  refine Nat.lt_pow_two_of_testBit _ fun i hi => ?_
  rw [testBit_mask,decide_eq_false]
  intro hm
  have:=List.mem_range.mp (List.mem_filter.mp hm).1
  omega
theorem stk_lt (b:Bk) (held:Nat):stk b held < 2 ^ b.banes.length:=mask_lt _ _
theorem stk_bit {b:Bk} {held g:Nat}:(stk b held).testBit g=true↔g < b.banes.length∧(yl b held).testBit (b.banes.getD g 0)=true:=by
  unfold stk hitL
  rw [testBit_mask,decide_eq_true_iff,List.mem_filter,List.mem_range]
noncomputable def dif (a b:Nat):Nat:=a - (a&&&b)
theorem or_add:∀ (x y:Nat),x&&&y=0→x|||y=x + y:=by
  intro x
  induction x using Nat.strongRecOn with
  | _ x ih =>
    intro y h
    by_cases hx:x=0
    · subst hx;simp
    · have h2:=ih (x / 2) (by omega) (y / 2) (by rw [← Nat.and_div_two,h])
      have h3:(x&&&y) % 2=0:=by rw [h]
      have h4:(x|||y) / 2=x / 2 + y / 2:=by rw [Nat.or_div_two,h2]
      have a1 := @Nat.or_mod_two_eq_one x y
      have a2 := @Nat.and_mod_two_eq_one x y
      omega
theorem sub_bit:∀ (a c:Nat),(∀ k,c.testBit k=true→a.testBit k=true)→∀ k,(a - c).testBit k=(a.testBit k && !c.testBit k):=by
  intro a c h k
  have e:a=(a - c) + c:=by
    have:c≤a:=by
      have:a&&&c=c:=Nat.eq_of_testBit_eq fun i=>by
        rw [Nat.testBit_and]
        cases hc:c.testBit i with
        | false=>simp
        | true=>rw [h i hc];rfl
      rw [← this]
      exact Nat.and_le_left
    omega
  have e2:a ^^^ c=a - c:=by
    have hx:(a ^^^ c) + c=a:=by
      have hd:(a ^^^ c)&&&c=0:=Nat.eq_of_testBit_eq fun i=>by
        rw [Nat.testBit_and,Nat.testBit_xor,Nat.zero_testBit]
        cases hc:c.testBit i with
        | false=>simp
        | true=>rw [h i hc];rfl
      have ho:(a ^^^ c)|||c=a:=Nat.eq_of_testBit_eq fun i=>by
        rw [Nat.testBit_or,Nat.testBit_xor]
        cases hc:c.testBit i with
        | false=>simp
        | true=>rw [h i hc];rfl
      rw [← or_add _ _ hd,ho]
    omega
  rw [← e2,Nat.testBit_xor]
  cases hc:c.testBit k with
  | false=>simp
  | true=>rw [h k hc];rfl
theorem forR_n {g:PV→PEnv→Option PEnv} {b:MSt} (I:Nat→PEnv→Prop) (n:Nat) (γ:PEnv) (h0:I 0 γ)
    (step:∀ j γ,j < n→I j γ→∃ γ1 γ2,g (pN j) γ=some γ1∧b γ1=some (.nx γ2)∧I (j + 1) γ2):∃ γ',forL g b (encN (List.range n)) γ=some (.nx γ')∧I n γ':=by
  obtain ⟨γ',e,h⟩:=forL_pre (g:=g) (b:=b) pN (fun pre γ=>I pre.length γ) (List.range n) (List.range n) [] γ rfl h0 (by
    intro pre j post γ hpre hI
    have hj:j=pre.length:=by
      have h1:(List.range n)[pre.length]?=some j:=by rw [← hpre];simp
      rw [List.getElem?_eq_some_iff] at h1
      obtain ⟨_,h2⟩:=h1
      simpa using h2.symm
    have hl:pre.length < n:=by
      have:=congrArg List.length hpre
      simp at this
      omega
    subst hj
    refine xq fun _ kq=>?_
    refine x2_3 (step _ γ hl hI) fun γ1 γ2 a1 a2 a3 => ?_
    apply kq
    exact ⟨γ1,γ2,a1,a2,by simpa using a3⟩)
  rw [List.length_range] at h
  exact ⟨γ',e,h⟩
theorem bane_get {b:Bk} {j:Nat} (h:j < b.banes.length):b.banes[j]?=some (b.banes.getD j 0):=by simp [h]
theorem ifK_setn {cond:Bool} {ms:List Nat} {i:Nat} {m:MEx} {γ:PEnv} (x y:Nat) (h:m γ=some (pN x)) (h2:γ.set i (.fz (pN y))=γ) :
    ifK (sSet ms i m) sNx γ cond=some (.nx (γ.set i (.fz (pN (if cond=true then x else y))))):=by
  cases cond with
  | false=>rw [ifK_f,ev_sNx];simp only [Bool.false_eq_true,if_false];rw [h2]
  | true=>rw [ifK_t,ev_sSet,h];simp only [if_true,Option.map_some,flat_n,keepE_true]
theorem andK_b {a b:Bool} {t:PEnv→Option Bool} {γ:PEnv} (h:t γ=some b):andK t γ a=some (a&&b):=by
  cases a
  · rfl
  · rw [andK_t,h];rfl
theorem orK_b {a b:Bool} {t:PEnv→Option Bool} {γ:PEnv} (h:t γ=some b):orK t γ a=some (a||b):=by
  cases a
  · rw [orK_f,h];rfl
  · rfl
theorem ifn_le {c:Bool} {x y z:Nat} (h1:x≤z) (h2:y≤z):(if c=true then x else y)≤z:=by cases c <;> simp [h1,h2]
theorem imod_lt (c:Int) {k:Nat} (h:0 < k):(c % (k:Int)).toNat < k:=by
  have:=Int.emod_lt_of_pos c (show (0:Int) < (k:Int) by omega)
  have:=Int.emod_nonneg c (show (k:Int)≠0 by omega)
  omega
theorem pAnd_inv (a b:Nat):pAnd (pN a) (.int (Builtin.bitNot (b:Int)))=some (pN (dif a b)):=by
  unfold pN
  rw [pAnd_i,bitAnd_pn (by omega) (by unfold Builtin.bitNot;omega)]
  have e:(Builtin.bitNot (Builtin.bitNot (b:Int))).toNat=b:=by unfold Builtin.bitNot;omega
  rw [e,Int.toNat_natCast]
  unfold dif
  have := @Nat.and_le_left a b
  congr 2
  omega
theorem dif_bit (a b k:Nat):(dif a b).testBit k=(a.testBit k && !b.testBit k):=by
  unfold dif
  rw [sub_bit a (a&&&b) (fun k h=>by rw [Nat.testBit_and] at h;simp at h;exact h.1),Nat.testBit_and]
  cases a.testBit k <;> cases b.testBit k <;> rfl
theorem pInv_n (b:Nat):pInv (pN b)=some (.int (Builtin.bitNot (b:Int))):=rfl
noncomputable def uns (b:Bk) (held:Nat):Nat:=dif (2 ^ b.banes.length - 1) (stk b held)
noncomputable def dfd (b:Bk) (held:Nat):Nat:=uns b (uns b held)
theorem uns_bit {b:Bk} {held g:Nat}:(uns b held).testBit g=(decide (g < b.banes.length) && !(stk b held).testBit g):=by
  unfold uns
  rw [dif_bit,Nat.testBit_two_pow_sub_one]
theorem uns_lt (b:Bk) (held:Nat):uns b held < 2 ^ b.banes.length:=by
  have:=Nat.two_pow_pos b.banes.length
  unfold uns dif
  omega
theorem dfd_lt (b:Bk) (held:Nat):dfd b held < 2 ^ b.banes.length:=uns_lt _ _
theorem bit_lt {m n k:Nat} (h:m < 2 ^ n) (hk:m.testBit k=true):k < n:=by
  rcases Nat.lt_or_ge k n with h1 | h1
  · exact h1
  · rw [Nat.testBit_lt_two_pow (Nat.lt_of_lt_of_le h (Nat.pow_le_pow_right (by decide) h1))] at hk;cases hk
theorem yl_mono {b:Bk} (ok:b.Ok) {h1 h2:Nat} (s:∀ w,h1.testBit w=true→h2.testBit w=true) {w:Nat} (d:(yl b h1).testBit w=true):(yl b h2).testBit w=true :=
  (yl_is ok h2 w).mpr (((yl_is ok h1 w).mp d).mono s)
theorem stk_mono {b:Bk} (ok:b.Ok) {h1 h2:Nat} (s:∀ w,h1.testBit w=true→h2.testBit w=true) {g:Nat} (d:(stk b h1).testBit g=true):(stk b h2).testBit g=true:=by
  rw [stk_bit] at *
  exact ⟨d.1,yl_mono ok s d.2⟩
theorem and_ne {a b:Nat}:(a&&&b==0)=false↔∃ k,a.testBit k=true∧b.testBit k=true:=by
  constructor
  · intro h
    have:a&&&b≠0:=by simpa using h
    obtain ⟨k,hk⟩:=Nat.exists_testBit_of_ne_zero this
    rw [Nat.testBit_and] at hk
    simp at hk
    exact ⟨k,hk⟩
  · rintro ⟨k,h1,h2⟩
    have:(a&&&b).testBit k=true:=by rw [Nat.testBit_and,h1,h2];rfl
    rw [beq_eq_false_iff_ne]
    intro e
    rw [e] at this
    simp at this
theorem and_z {a b:Nat}:(a&&&b==0)=true↔∀ k,a.testBit k=true→b.testBit k=false:=by
  constructor
  · intro h k hk
    cases hb:b.testBit k with
    | false=>rfl
    | true=>rw [and_ne.mpr ⟨k,hk,hb⟩] at h;cases h
  · intro h
    cases he:(a&&&b==0) with
    | true=>rfl
    | false =>
      refine x1_2 (and_ne.mp he) fun k h1 h2 => ?_
      rw [h k h1] at h2;cases h2
theorem dfd_iff {b:Bk} (ok:b.Ok) {held g:Nat}:(dfd b held).testBit g=true↔g < b.banes.length∧∀ U,U < 2 ^ b.banes.length→(stk b U).testBit g=true→(U&&&stk b held==0)=false:=by
  have e:(dfd b held).testBit g=(decide (g < b.banes.length) && !(stk b (uns b held)).testBit g):=uns_bit
  rw [e,Bool.and_eq_true,decide_eq_true_iff]
  refine and_congr_right fun hg => ?_
  constructor
  · intro h U hU hs
    cases hz:(U&&&stk b held==0) with
    | false=>rfl
    | true =>
      have:=stk_mono ok (h2:=uns b held) (fun w hw=>by rw [uns_bit,and_z.mp hz w hw,decide_eq_true (bit_lt hU hw)];rfl) hs
      rw [this] at h
      cases h
  · intro h
    cases hs:(stk b (uns b held)).testBit g with
    | false=>rfl
    | true =>
      have:=h _ (uns_lt b held) hs
      refine x1_2 (and_ne.mp this) fun k h1 h2 => ?_
      rw [uns_bit,h2] at h1
      simp at h1
theorem e_all_guesses {b:Bk} (ok:b.Ok):r_all_guesses [b.enc]=some (pN (2 ^ b.banes.length - 1)):=by
  unfold r_all_guesses d_all_guesses
  have h8:=ok.g8
  have hp:=Nat.two_pow_pos b.banes.length
  (try simp (disch:=first | assumption | omega | (simp only [encN_len,tr_len,encN_len,List.length_map,List.length_range,List.length_cons,List.length_nil,List.length_append];omega) | decide) only [encN_len,encN_flat,enc_ix0,enc_ix1,enc_ix2,renc_ix0,renc_ix1,flat_benc,flat_renc,e_inside,tr_get,tr_flat,tr_set,testBit_one,pInv_n,pAnd_inv,EVc,List.length_cons,List.length_nil,if_true,List.map_cons,List.map_nil,List.replicate_zero,List.replicate_succ,List.cons_append,List.nil_append,List.getElem?_cons_zero,List.getElem?_cons_succ,Option.bind_some,Option.map_some,List.set_cons_zero,List.set_cons_succ,List.length_map,List.length_range,List.all_nil,List.all_cons,List.length_append])
theorem e_unstruck {b:Bk} (ok:b.Ok) (held:Nat):r_unstruck [b.enc,pN held]=some (pN (uns b held)):=by
  unfold r_unstruck d_unstruck
  (try simp (disch:=first | assumption | omega | (simp only [encN_len,tr_len,encN_len,List.length_map,List.length_range,List.length_cons,List.length_nil,List.length_append];omega) | decide) only [encN_len,encN_flat,enc_ix0,enc_ix1,enc_ix2,renc_ix0,renc_ix1,flat_benc,flat_renc,e_inside,tr_get,tr_flat,tr_set,testBit_one,pInv_n,pAnd_inv,EVc,List.length_cons,List.length_nil,if_true,List.map_cons,List.map_nil,List.replicate_zero,List.replicate_succ,List.cons_append,List.nil_append,List.getElem?_cons_zero,List.getElem?_cons_succ,Option.bind_some,Option.map_some,List.set_cons_zero,List.set_cons_succ,List.length_map,List.length_range,List.all_nil,List.all_cons,List.length_append])
  rw [e_all_guesses ok,e_struck ok]
  (try simp (disch:=first | assumption | omega | (simp only [encN_len,tr_len,encN_len,List.length_map,List.length_range,List.length_cons,List.length_nil,List.length_append];omega) | decide) only [encN_len,encN_flat,enc_ix0,enc_ix1,enc_ix2,renc_ix0,renc_ix1,flat_benc,flat_renc,e_inside,tr_get,tr_flat,tr_set,testBit_one,pInv_n,pAnd_inv,EVc,List.length_cons,List.length_nil,if_true,List.map_cons,List.map_nil,List.replicate_zero,List.replicate_succ,List.cons_append,List.nil_append,List.getElem?_cons_zero,List.getElem?_cons_succ,Option.bind_some,Option.map_some,List.set_cons_zero,List.set_cons_succ,List.length_map,List.length_range,List.all_nil,List.all_cons,List.length_append])
  rfl
theorem e_defended {b:Bk} (ok:b.Ok) (held:Nat):r_defended [b.enc,pN held]=some (pN (dfd b held)):=by
  unfold r_defended d_defended
  (try simp (disch:=first | assumption | omega | (simp only [encN_len,tr_len,encN_len,List.length_map,List.length_range,List.length_cons,List.length_nil,List.length_append];omega) | decide) only [encN_len,encN_flat,enc_ix0,enc_ix1,enc_ix2,renc_ix0,renc_ix1,flat_benc,flat_renc,e_inside,tr_get,tr_flat,tr_set,testBit_one,pInv_n,pAnd_inv,EVc,List.length_cons,List.length_nil,if_true,List.map_cons,List.map_nil,List.replicate_zero,List.replicate_succ,List.cons_append,List.nil_append,List.getElem?_cons_zero,List.getElem?_cons_succ,Option.bind_some,Option.map_some,List.set_cons_zero,List.set_cons_succ,List.length_map,List.length_range,List.all_nil,List.all_cons,List.length_append])
  rw [e_unstruck ok]
  (try simp (disch:=first | assumption | omega | (simp only [encN_len,tr_len,encN_len,List.length_map,List.length_range,List.length_cons,List.length_nil,List.length_append];omega) | decide) only [encN_len,encN_flat,enc_ix0,enc_ix1,enc_ix2,renc_ix0,renc_ix1,flat_benc,flat_renc,e_inside,tr_get,tr_flat,tr_set,testBit_one,pInv_n,pAnd_inv,EVc,List.length_cons,List.length_nil,if_true,List.map_cons,List.map_nil,List.replicate_zero,List.replicate_succ,List.cons_append,List.nil_append,List.getElem?_cons_zero,List.getElem?_cons_succ,Option.bind_some,Option.map_some,List.set_cons_zero,List.set_cons_succ,List.length_map,List.length_range,List.all_nil,List.all_cons,List.length_append])
  rw [e_unstruck ok]
  rfl
noncomputable def std (b:Bk) (held:Nat):Bool:=(held&&&stk b held==0)&&insB held (dfd b held)
noncomputable def hitsL (b:Bk):List Nat:=(List.range (2 ^ b.banes.length)).map fun held=>stk b held
theorem pow8 {n:Nat} (h:n≤8):2 ^ n≤256:=Nat.pow_le_pow_right (n:=2) (by decide) h
theorem pAdd_ni (a:Nat) (b:Int):pAdd (pN a) (.int b)=some (.int ((a:Int) + b)):=pAdd_i _ _
theorem pAdd_in (a:Int) (b:Nat):pAdd (.int a) (pN b)=some (.int (a + (b:Int))):=pAdd_i _ _
theorem outO_ro' (xs:List PV):outO (.ro xs)=some xs:=rfl
theorem isN_l (xs:List PV):isN (.lst xs)=false:=rfl
theorem isN_b (b:Bool):isN (.bl b)=false:=rfl
theorem uns_anti {b:Bk} (ok:b.Ok) {h1 h2:Nat} (s:∀ w,h1.testBit w=true→h2.testBit w=true) {g:Nat} (d:(uns b h2).testBit g=true):(uns b h1).testBit g=true:=by
  rw [uns_bit,Bool.and_eq_true] at *
  refine ⟨d.1,?_⟩
  cases hs:(stk b h1).testBit g with
  | false=>rfl
  | true=>have:=stk_mono ok s hs;rw [this] at d;simp at d
theorem dfd_mono {b:Bk} (ok:b.Ok) {h1 h2:Nat} (s:∀ w,h1.testBit w=true→h2.testBit w=true) {g:Nat} (d:(dfd b h1).testBit g=true):(dfd b h2).testBit g=true :=
  uns_anti ok (fun _ h=>uns_anti ok s h) d
noncomputable def newL (b:Bk) (held grd:Nat):List Nat:=(List.range b.banes.length).filter fun g=>grd.testBit g && !held.testBit g
theorem e_places8 {m n:Nat} (hn:n≤60) (h:m < 2 ^ n):r_places [pN m]=some (.lst (encN (plN m))):=by
  have hb:bitsN m≤60:=by
    unfold bitsN
    split
    · omega
    · rename_i h0
      have:=(Nat.log2_lt h0).mpr h
      omega
  unfold r_places d_places
  (try simp (disch:=first | assumption | omega | (simp only [encN_len,tr_len,encN_len,List.length_map,List.length_range,List.length_cons,List.length_nil,List.length_append];omega) | decide) only [encN_len,encN_flat,enc_ix0,enc_ix1,enc_ix2,renc_ix0,renc_ix1,flat_benc,flat_renc,e_inside,tr_get,tr_flat,tr_set,testBit_one,testBit_zero',pInv_n,pAnd_inv,EVc,List.length_cons,List.length_nil,if_true,List.map_cons,List.map_nil,List.replicate_zero,List.replicate_succ,List.cons_append,List.nil_append,List.getElem?_cons_zero,List.getElem?_cons_succ,Option.bind_some,Option.map_some,List.set_cons_zero,List.set_cons_succ,List.length_map,List.length_range,List.all_nil,List.all_cons,List.length_append])
  rw [compNF (fun k=>m.testBit k) (List.range (bitsN m)) fun k hk=>⟨_,rfl,by (try simp (disch:=first | assumption | omega | (simp only [encN_len,tr_len,encN_len,List.length_map,List.length_range,List.length_cons,List.length_nil,List.length_append];omega) | decide) only [encN_len,encN_flat,enc_ix0,enc_ix1,enc_ix2,renc_ix0,renc_ix1,flat_benc,flat_renc,e_inside,tr_get,tr_flat,tr_set,testBit_one,testBit_zero',pInv_n,pAnd_inv,EVc,List.length_cons,List.length_nil,if_true,List.map_cons,List.map_nil,List.replicate_zero,List.replicate_succ,List.cons_append,List.nil_append,List.getElem?_cons_zero,List.getElem?_cons_succ,Option.bind_some,Option.map_some,List.set_cons_zero,List.set_cons_succ,List.length_map,List.length_range,List.all_nil,List.all_cons,List.length_append]),rfl⟩]
  rfl
theorem e_does_yield {b:Bk} (ok:b.Ok) (held:Nat) {word:Nat} (hw:word≤1000):r_does_yield [b.enc,pN held,pN word]=some (.bl ((yl b held).testBit word)):=by
  unfold r_does_yield d_does_yield
  (try simp (disch:=first | assumption | omega | (simp only [encN_len,tr_len,encN_len,List.length_map,List.length_range,List.length_cons,List.length_nil,List.length_append];omega) | decide) only [encN_len,encN_flat,enc_ix0,enc_ix1,enc_ix2,renc_ix0,renc_ix1,flat_benc,flat_renc,e_inside,tr_get,tr_flat,tr_set,testBit_one,testBit_zero',pInv_n,pAnd_inv,EVc,List.length_cons,List.length_nil,if_true,List.map_cons,List.map_nil,List.replicate_zero,List.replicate_succ,List.cons_append,List.nil_append,List.getElem?_cons_zero,List.getElem?_cons_succ,Option.bind_some,Option.map_some,List.set_cons_zero,List.set_cons_succ,List.length_map,List.length_range,List.all_nil,List.all_cons,List.length_append])
  rw [e_yielded ok]
  (try simp (disch:=first | assumption | omega | (simp only [encN_len,tr_len,encN_len,List.length_map,List.length_range,List.length_cons,List.length_nil,List.length_append];omega) | decide) only [encN_len,encN_flat,enc_ix0,enc_ix1,enc_ix2,renc_ix0,renc_ix1,flat_benc,flat_renc,e_inside,tr_get,tr_flat,tr_set,testBit_one,testBit_zero',pInv_n,pAnd_inv,EVc,List.length_cons,List.length_nil,if_true,List.map_cons,List.map_nil,List.replicate_zero,List.replicate_succ,List.cons_append,List.nil_append,List.getElem?_cons_zero,List.getElem?_cons_succ,Option.bind_some,Option.map_some,List.set_cons_zero,List.set_cons_succ,List.length_map,List.length_range,List.all_nil,List.all_cons,List.length_append])
  rw [insB_pow]
noncomputable def IsRs (b:Bk) (word U:Nat):Prop:=(yl b U).testBit word=true∧∀ g,U.testBit g=true→(yl b (dif U (2 ^ g))).testBit word=false
theorem dif_sub (a b k:Nat) (h:(dif a b).testBit k=true):a.testBit k=true:=by
  rw [dif_bit] at h
  simp at h
  exact h.1
theorem e_a_reason {b:Bk} (ok:b.Ok) {within word:Nat} (hh:within < 2 ^ b.banes.length) (hw:word < b.words) (hy:(yl b within).testBit word=true) :
    ∃ U,r_a_reason [b.enc,pN within,pN word]=some (pN U)∧(∀ g,U.testBit g=true→within.testBit g=true)∧IsRs b word U:=by
  have hw60:=ok.w60
  have h8:=ok.g8
  unfold r_a_reason d_a_reason
  (try simp (disch:=first | assumption | omega | (simp only [encN_len,tr_len,encN_len,List.length_map,List.length_range,List.length_cons,List.length_nil,List.length_append];omega) | decide) only [encN_len,encN_flat,enc_ix0,enc_ix1,enc_ix2,renc_ix0,renc_ix1,flat_benc,flat_renc,e_inside,tr_get,tr_flat,tr_set,testBit_one,testBit_zero',pInv_n,pAnd_inv,EVc,List.length_cons,List.length_nil,if_true,List.map_cons,List.map_nil,List.replicate_zero,List.replicate_succ,List.cons_append,List.nil_append,List.getElem?_cons_zero,List.getElem?_cons_succ,Option.bind_some,Option.map_some,List.set_cons_zero,List.set_cons_succ,List.length_map,List.length_range,List.all_nil,List.all_cons,List.length_append])
  rw [e_does_yield ok _ (by omega),hy]
  (try simp (disch:=first | assumption | omega | (simp only [encN_len,tr_len,encN_len,List.length_map,List.length_range,List.length_cons,List.length_nil,List.length_append];omega) | decide) only [encN_len,encN_flat,enc_ix0,enc_ix1,enc_ix2,renc_ix0,renc_ix1,flat_benc,flat_renc,e_inside,tr_get,tr_flat,tr_set,testBit_one,testBit_zero',pInv_n,pAnd_inv,EVc,List.length_cons,List.length_nil,if_true,List.map_cons,List.map_nil,List.replicate_zero,List.replicate_succ,List.cons_append,List.nil_append,List.getElem?_cons_zero,List.getElem?_cons_succ,Option.bind_some,Option.map_some,List.set_cons_zero,List.set_cons_succ,List.length_map,List.length_range,List.all_nil,List.all_cons,List.length_append])
  rw [e_places8 (show b.banes.length≤60 by omega) hh]
  (try simp (disch:=first | assumption | omega | (simp only [encN_len,tr_len,encN_len,List.length_map,List.length_range,List.length_cons,List.length_nil,List.length_append];omega) | decide) only [encN_len,encN_flat,enc_ix0,enc_ix1,enc_ix2,renc_ix0,renc_ix1,flat_benc,flat_renc,e_inside,tr_get,tr_flat,tr_set,testBit_one,testBit_zero',pInv_n,pAnd_inv,EVc,List.length_cons,List.length_nil,if_true,List.map_cons,List.map_nil,List.replicate_zero,List.replicate_succ,List.cons_append,List.nil_append,List.getElem?_cons_zero,List.getElem?_cons_succ,Option.bind_some,Option.map_some,List.set_cons_zero,List.set_cons_succ,List.length_map,List.length_range,List.all_nil,List.all_cons,List.length_append])
  obtain ⟨γ',e,U,s4,s5,rfl,h1,h2,h3⟩:=forL_pre (g:=gSet 4) (b:=b1_a_reason) pN
    (fun pre γ=>∃ (U:Nat) (s4 s5:Slot),γ=[.fz b.enc,.fz (pN within),.fz (pN word),.fz (pN U),s4,s5]∧(∀ g,U.testBit g=true→within.testBit g=true)∧(yl b U).testBit word=true∧∀ g∈pre,U.testBit g=true→(yl b (dif U (2 ^ g))).testBit word=false)
    (plN within) (plN within) [] [.fz b.enc,.fz (pN within),.fz (pN word),.fz (pN within),.un,.un] rfl ⟨within,.un,.un,rfl,fun _ h=>h,hy,by simp⟩ (by
      rintro pre g post γ hpre ⟨U,s4,s5,rfl,h1,h2,h3⟩
      have hg:g∈plN within:=by rw [← hpre];simp
      have hg8:=bit_lt hh (mem_plN.mp hg)
      have e:b1_a_reason [.fz b.enc,.fz (pN within),.fz (pN word),.fz (pN U),.fz (pN g),s5]=some (.nx (match (yl b (dif U (2 ^ g))).testBit word with
        | true=>[.fz b.enc,.fz (pN within),.fz (pN word),.fz (pN (dif U (2 ^ g))),.fz (pN g),.fz (pN (dif U (2 ^ g)))]
        | false=>[.fz b.enc,.fz (pN within),.fz (pN word),.fz (pN U),.fz (pN g),.fz (pN (dif U (2 ^ g)))])):=by
        unfold b1_a_reason
        (try simp (disch:=first | assumption | omega | (simp only [encN_len,tr_len,encN_len,List.length_map,List.length_range,List.length_cons,List.length_nil,List.length_append];omega) | decide) only [encN_len,encN_flat,enc_ix0,enc_ix1,enc_ix2,renc_ix0,renc_ix1,flat_benc,flat_renc,e_inside,tr_get,tr_flat,tr_set,testBit_one,testBit_zero',pInv_n,pAnd_inv,EVc,List.length_cons,List.length_nil,if_true,List.map_cons,List.map_nil,List.replicate_zero,List.replicate_succ,List.cons_append,List.nil_append,List.getElem?_cons_zero,List.getElem?_cons_succ,Option.bind_some,Option.map_some,List.set_cons_zero,List.set_cons_succ,List.length_map,List.length_range,List.all_nil,List.all_cons,List.length_append])
        rw [e_does_yield ok _ (by omega)]
        cases (yl b (dif U (2 ^ g))).testBit word with
        | true=>(try simp (disch:=first | assumption | omega | (simp only [encN_len,tr_len,encN_len,List.length_map,List.length_range,List.length_cons,List.length_nil,List.length_append];omega) | decide) only [encN_len,encN_flat,enc_ix0,enc_ix1,enc_ix2,renc_ix0,renc_ix1,flat_benc,flat_renc,e_inside,tr_get,tr_flat,tr_set,testBit_one,testBit_zero',pInv_n,pAnd_inv,EVc,List.length_cons,List.length_nil,if_true,List.map_cons,List.map_nil,List.replicate_zero,List.replicate_succ,List.cons_append,List.nil_append,List.getElem?_cons_zero,List.getElem?_cons_succ,Option.bind_some,Option.map_some,List.set_cons_zero,List.set_cons_succ,List.length_map,List.length_range,List.all_nil,List.all_cons,List.length_append])
        | false=>(try simp (disch:=first | assumption | omega | (simp only [encN_len,tr_len,encN_len,List.length_map,List.length_range,List.length_cons,List.length_nil,List.length_append];omega) | decide) only [encN_len,encN_flat,enc_ix0,enc_ix1,enc_ix2,renc_ix0,renc_ix1,flat_benc,flat_renc,e_inside,tr_get,tr_flat,tr_set,testBit_one,testBit_zero',pInv_n,pAnd_inv,EVc,List.length_cons,List.length_nil,if_true,List.map_cons,List.map_nil,List.replicate_zero,List.replicate_succ,List.cons_append,List.nil_append,List.getElem?_cons_zero,List.getElem?_cons_succ,Option.bind_some,Option.map_some,List.set_cons_zero,List.set_cons_succ,List.length_map,List.length_range,List.all_nil,List.all_cons,List.length_append])
      refine ⟨_,_,rfl,e,?_⟩
      cases hk:(yl b (dif U (2 ^ g))).testBit word with
      | true =>
        refine ⟨dif U (2 ^ g),_,_,rfl,fun k hk=>h1 k (dif_sub _ _ _ hk),hk,fun k hk2 hb => ?_⟩
        rcases List.mem_append.mp hk2 with z | z
        · cases hy2:(yl b (dif (dif U (2 ^ g)) (2 ^ k))).testBit word with
          | false=>rfl
          | true =>
            have:=yl_mono ok (h2:=dif U (2 ^ k)) (fun w hw=>by
              rw [dif_bit,dif_bit] at hw
              rw [dif_bit]
              simp at hw
              simp [hw]) hy2
            rw [h3 k z (dif_sub _ _ _ hb)] at this
            cases this
        · rw [List.mem_singleton.mp z,dif_bit,Nat.testBit_two_pow_self] at hb
          simp at hb
      | false =>
        refine ⟨U,_,_,rfl,h1,h2,fun k hk2 hb => ?_⟩
        rcases List.mem_append.mp hk2 with z | z
        · exact h3 k z hb
        · rw [List.mem_singleton.mp z];exact hk)
  rw [show encN (plN within)=(plN within).map pN from rfl,e]
  (try simp (disch:=first | assumption | omega | (simp only [encN_len,tr_len,encN_len,List.length_map,List.length_range,List.length_cons,List.length_nil,List.length_append];omega) | decide) only [encN_len,encN_flat,enc_ix0,enc_ix1,enc_ix2,renc_ix0,renc_ix1,flat_benc,flat_renc,e_inside,tr_get,tr_flat,tr_set,testBit_one,testBit_zero',pInv_n,pAnd_inv,EVc,List.length_cons,List.length_nil,if_true,List.map_cons,List.map_nil,List.replicate_zero,List.replicate_succ,List.cons_append,List.nil_append,List.getElem?_cons_zero,List.getElem?_cons_succ,Option.bind_some,Option.map_some,List.set_cons_zero,List.set_cons_succ,List.length_map,List.length_range,List.all_nil,List.all_cons,List.length_append])
  exact ⟨U,rfl,h1,h2,fun g hg=>h3 g (mem_plN.mpr (h1 g hg)) hg⟩
noncomputable def bn (b:Bk) (g:Nat):Nat:=b.banes.getD g 0
theorem bn_lt {b:Bk} (ok:b.Ok) {g:Nat} (h:g < b.banes.length):bn b g < b.words:=bane_lt ok h
theorem bn_get {b:Bk} {j:Nat} (h:j < b.banes.length):b.banes[j]?=some (bn b j):=bane_get h
theorem dif_pow {U g:Nat} (h:U.testBit g=true):dif U (2 ^ g)=U - 2 ^ g:=by
  unfold dif
  congr 1
  refine Nat.eq_of_testBit_eq fun k => ?_
  rw [Nat.testBit_and,Nat.testBit_two_pow]
  by_cases hk:g=k
  · subst hk;simp [h]
  · simp [hk]
theorem sub_lt {U W n:Nat} (hw:W < 2 ^ n) (h:∀ g,U.testBit g=true→W.testBit g=true):U < 2 ^ n:=Nat.lt_pow_two_of_testBit _ fun i hi=>by
  cases hb:U.testBit i with
  | false=>rfl
  | true=>have:=bit_lt hw (h i hb);omega
local macro_rules | `(tactic| walk_at "ev") => `(tactic| try simp (disch:=first | assumption | omega | (simp only [encN_len,tr_len,encN_len,List.length_map,List.length_range,List.length_cons,List.length_nil,List.length_append];omega) | decide) only [encN_len,encN_flat,enc_ix0,enc_ix1,enc_ix2,renc_ix0,renc_ix1,flat_benc,flat_renc,e_inside,tr_get,tr_flat,tr_set,testBit_one,testBit_zero',pInv_n,pAnd_inv,isN_l,isN_b,EVc,List.length_cons,List.length_nil,if_true,List.map_cons,List.map_nil,List.replicate_zero,List.replicate_succ,List.cons_append,List.nil_append,List.getElem?_cons_zero,List.getElem?_cons_succ,Option.bind_some,Option.map_some,List.set_cons_zero,List.set_cons_succ,List.length_map,List.length_range,List.all_nil,List.all_cons,List.length_append])
theorem e_first_strike {b:Bk} (ok:b.Ok) {gs within:Nat} (hg:gs < 2 ^ b.banes.length) (h0:gs≠0) (hh:within < 2 ^ b.banes.length) (hy:∀ g,gs.testBit g=true→(yl b within).testBit (bn b g)=true) :
    ∃ g U,r_first_strike [b.enc,pN gs,pN within]=some (.tup [pN g,pN U])∧gs.testBit g=true∧(∀ k,U.testBit k=true→within.testBit k=true)∧IsRs b (bn b g) U:=by
  have h8:=ok.g8
  obtain ⟨g,t,e⟩:∃ g t,plN gs=g :: t:=by
    obtain ⟨k,hk⟩:=Nat.exists_testBit_of_ne_zero h0
    cases hp:plN gs with
    | nil =>
      have:=mem_plN.mpr hk
      rw [hp] at this
      cases this
    | cons g t=>exact ⟨g,t,rfl⟩
  have hgb:gs.testBit g=true:=mem_plN.mp (by rw [e];simp)
  have hgl:=bit_lt hg hgb
  refine xq fun _ kq=>?_
  refine x1_3 (e_a_reason ok hh (bn_lt ok hgl) (hy g hgb)) fun U eU h1 h2 => ?_
  apply kq
  refine ⟨g,U,?_,hgb,h1,h2⟩
  unfold r_first_strike d_first_strike
  walk_at "ev"
  rw [e_places8 (show b.banes.length≤60 by omega) hg,e]
  walk_at "ev"
  rw [bn_get hgl]
  walk_at "ev"
  rw [eU]
  walk_at "ev"
inductive Flaw (b:Bk) (held:Nat):PV→Prop
  | non:std b held=true→Flaw b held .non
  | torn {g U:Nat}:std b held=false→(held&&&stk b held==0)=false→held.testBit g=true→(∀ k,U.testBit k=true→held.testBit k=true)→IsRs b (bn b g) U→Flaw b held (.tup [.str "torn",pN g,pN U])
  | bare {g U:Nat}:std b held=false→(held&&&stk b held==0)=true→held.testBit g=true→(∀ k,U.testBit k=true→(uns b held).testBit k=true)→IsRs b (bn b g) U→Flaw b held (.tup [.str "bare",pN g,pN U])
theorem pAllB_l (bs:List Bool):pAllB [.lst (bs.map .bl)]=some (.bl (bs.all id)):=by
  show (bls? (bs.map PV.bl)).map (fun bs=>PV.bl (bs.all id))=_
  rw [bls?_map];rfl
noncomputable def lk3 (b:Bk) (held:Nat) (found:List Nat) (grown:Bool) (s4:Slot):PEnv :=
  [.fz b.enc,.fz (pN held),.ow (encN found),.fz (.bl grown),s4]
theorem turn_y1 {b:Bk} (ok:b.Ok) {held known:Nat} {found:List Nat} {grown:Bool} {r:Rule} (hm:r∈b.rules) (hf:∀ w,w∈found↔known.testBit w=true) (hl:found.length≤1000) :
    b1__law_yields (lk3 b held found grown (.fz r.enc))=some (.nx (match fires known r with
      | true=>lk3 b held (found++[r.head]) true (.fz r.enc) | false=>lk3 b held found grown (.fz r.enc))):=by
  have hbl:=body_len ok hm
  have hd:∀ w,decide (w∈found)=known.testBit w:=fun w=>by rw [Bool.eq_iff_iff,decide_eq_true_iff];exact hf w
  unfold fires
  unfold b1__law_yields lk3
  walk_at "ev"
  rw [hd]
  cases hk:known.testBit r.head with
  | true=>walk_at "ev"
  | false =>
    walk_at "ev"
    rw [show encN r.body=r.body.map pN from rfl,compL_all pN (fun k=>PV.bl (known.testBit k)) r.body fun k hk=>⟨_,rfl,by
      walk_at "ev"
      rw [hd]⟩]
    rw [show (r.body.map fun k=>PV.bl (known.testBit k))=(r.body.map fun k=>known.testBit k).map PV.bl by rw [List.map_map];rfl]
    walk_at "ev"
    rw [pAllB_l,List.all_map]
    walk_at "ev"
    cases hc:r.body.all (id ∘ fun k=>known.testBit k) with
    | true =>
      rw [show (r.body.all fun k=>known.testBit k)=true from hc]
      walk_at "ev"
      rw [appK_ow (by rw [encN_len];omega) rfl]
      walk_at "ev"
      simp [encN]
    | false =>
      rw [show (r.body.all fun k=>known.testBit k)=false from hc]
      walk_at "ev"
theorem round_y2 {b:Bk} (ok:b.Ok) {held known:Nat} {steps found:List Nat} {grown:Bool} {s4:Slot} (w:Way b held steps known) (hf:∀ w,w∈found↔known.testBit w=true) (hl:found.length≤b.words + steps.length) :
    ∃ known' steps' found' grown' s4',b2__law_yields (lk3 b held found grown s4)=some (.nx (lk3 b held found' grown' s4'))∧Way b held steps' known'∧(∀ w,w∈found'↔known'.testBit w=true)∧found'.length≤b.words + steps'.length ∧
      (grown'=false→Closed b known')∧(grown'=true→steps.length < steps'.length)∧steps.length≤steps'.length:=by
  have hr40:=ok.r40
  have hw60:=ok.w60
  unfold b2__law_yields lk3
  walk_at "ev"
  obtain ⟨γ',e,known',steps',found',grown',t4,rfl,h1,h2,h3,h4,g1,g2⟩:=forL_pre (g:=gSet 4) (b:=b1__law_yields) Rule.enc
    (fun pre γ=>∃ known' steps' found' grown' t4,γ=lk3 b held found' grown' t4∧Way b held steps' known'∧steps.length≤steps'.length ∧
      (grown'=false→∀ p∈pre,fires known' p=false)∧(grown'=true→steps.length < steps'.length)∧(∀ w,w∈found'↔known'.testBit w=true)∧found'.length≤b.words + steps'.length)
    b.rules b.rules [] (lk3 b held found false s4) rfl ⟨known,steps,found,false,s4,rfl,w,Nat.le_refl _,by simp,by simp,hf,hl⟩ (by
      rintro pre r post γ hpre ⟨kn,st,fo,gr,t4,rfl,h1,h2,h3,h4,g1,g2⟩
      have hr:r∈b.rules:=by rw [← hpre];simp
      have hst:=h1.left
      refine ⟨_,_,rfl,turn_y1 ok (held:=held) (known:=kn) (grown:=gr) hr g1 (by omega),?_⟩
      cases hf:fires kn r with
      | true =>
        refine xq fun _ kq=>?_
        obtain ⟨f1,f2⟩:=fires_iff.mp hf
        obtain ⟨i,hi,hri⟩:=List.mem_iff_getElem.mp hr
        apply kq
        refine ⟨_,st++[i],_,true,_,rfl,.snoc h1 (by rw [List.getElem?_eq_getElem hi,hri]) f2 f1,by simp;omega,by simp,fun _=>by simp;omega,fun w => ?_,by simp;omega⟩
        rw [List.mem_append,List.mem_singleton,testBit_or_pow,Bool.or_eq_true,decide_eq_true_iff,g1 w,eq_comm (a:=w)]
      | false =>
        refine ⟨_,st,_,gr,_,rfl,h1,h2,fun hg p hp => ?_,h4,g1,g2⟩
        rcases List.mem_append.mp hp with z | z
        · exact h3 hg p z
        · rw [List.mem_singleton.mp z];exact hf)
  refine ⟨known',steps',found',grown',t4,?_,h1,g1,g2,fun hg r hr hb => ?_,h4,h2⟩
  · unfold lk3 at e
    exact e
  · have:=h3 hg r hr
    cases hk:known'.testBit r.head with
    | true=>rfl
    | false =>
      have:=fires_iff.mpr ⟨hk,hb⟩
      simp_all
theorem e_yields {b:Bk} (ok:b.Ok) {held:Nat} (hh:held < 2 ^ b.banes.length):∃ found:List Nat,r__law_yields [b.enc,pN held]=some (.lst (encN found))∧(∀ w,w∈found↔(yl b held).testBit w=true)∧found.length≤1000:=by
  unfold r__law_yields d__law_yields
  have hr:=ok.r40
  have hw:=ok.w60
  have h8:=ok.g8
  have hgw:=ok.gw
  walk_at "ev"
  rw [compNF (fun k=>held.testBit k) (List.range b.words) fun k hk=>⟨_,rfl,by walk_at "ev",rfl⟩]
  walk_at "ev"
  have hf0:∀ w,w∈(List.range b.words).filter (fun k=>held.testBit k)↔held.testBit w=true:=fun w=>by
    rw [List.mem_filter,List.mem_range]
    exact ⟨fun h=>h.2,fun h=>⟨by have:=bit_lt hh h;omega,h⟩⟩
  have hl0:((List.range b.words).filter fun k=>held.testBit k).length≤b.words:=by
    have:=List.length_filter_le (fun k=>held.testBit k) (List.range b.words)
    rwa [List.length_range] at this
  generalize (List.range b.words).filter (fun k=>held.testBit k)=found0 at *
  obtain ⟨γ',e,known,steps,found,s4,rfl,h1,h2,h3,h4⟩:=whileL_by (t:=mTru (mVar 3)) (b:=b2__law_yields)
    (Post:=fun γ=>∃ known steps found s4,γ=lk3 b held found false s4∧Way b held steps known∧Closed b known∧(∀ w,w∈found↔known.testBit w=true)∧found.length≤b.words + steps.length)
    (fun n γ=>∃ known steps found grown s4,γ=lk3 b held found grown s4∧Way b held steps known∧(grown=false→Closed b known)∧(∀ w,w∈found↔known.testBit w=true)∧found.length≤b.words + steps.length∧n=2 * (b.rules.length + 1 - steps.length) + (if grown=true then 1 else 0))
    (by
      rintro n γ ⟨known,steps,found,grown,s4,rfl,h1,h2,h3,h4,rfl⟩
      have hl:=h1.left
      cases grown with
      | false =>
        refine .inl ⟨?_,known,steps,found,s4,rfl,h1,h2 rfl,h3,h4⟩
        unfold lk3
        walk_at "ev"
      | true =>
        refine .inr ⟨?_,?_⟩
        · unfold lk3
          walk_at "ev"
        · refine xq fun _ kq=>?_
          refine x5_7 (round_y2 ok (grown:=true) (s4:=s4) h1 h3 h4) fun kn st fo gr t4 e w f1 f2 c l l2 => ?_
          apply kq
          have hl2:=w.left
          cases gr with
          | true=>exact ⟨_,_,e,by have:=l rfl;simp;omega,kn,st,fo,true,t4,rfl,w,c,f1,f2,rfl⟩
          | false=>exact ⟨_,_,e,by simp;omega,kn,st,fo,false,t4,rfl,w,c,f1,f2,rfl⟩)
    1000 (2 * (b.rules.length + 1) + 1) (lk3 b held found0 true .un) ⟨held,[],found0,true,.un,rfl,.nil,by simp,hf0,by simpa using hl0,by simp⟩ (by omega)
  have hst:=h1.left
  have:=yl_eq ok (.of h1 h2)
  subst this
  unfold lk3 at e
  unfold sWhile
  rw [e]
  walk_at "ev"
  exact ⟨found,rfl,h3,by omega⟩
theorem pw_eq (p:Nat→Bool) (n m:Nat) (h:∀ g,m.testBit g=(decide (g < n)&&p g)):(((List.range n).filter p).map fun g=>2 ^ g).sum=m:=by
  show pw ((List.range n).filter p)=m
  refine Nat.eq_of_testBit_eq fun k => ?_
  rw [Bool.eq_iff_iff,testBit_pw _ _ (List.Pairwise.filter _ List.pairwise_lt_range),List.mem_filter,List.mem_range,h,Bool.and_eq_true,decide_eq_true_iff]
theorem enc_map (p:Nat→Bool) (n:Nat):(((List.range n).filter p).map fun g=>pN (2 ^ g))=encN (((List.range n).filter p).map fun g=>2 ^ g):=by
  unfold encN
  rw [List.map_map]
  rfl
theorem e_defends {b:Bk} (ok:b.Ok) {held:Nat} (hh:held < 2 ^ b.banes.length):r__law_defends [b.enc,pN held]=some (pN (dfd b held)):=by
  have h8:=ok.g8
  refine xq fun _ kq=>?_
  refine x1_3 (e_yields ok hh) fun f1 e1 h1 l1 => ?_
  refine x1_3 (e_yields ok (uns_lt b held)) fun f2 e2 h2 l2 => ?_
  apply kq
  have d:∀ {f:List Nat} {m:Nat},(∀ w,w∈f↔(yl b m).testBit w=true)→∀ w,decide (w∈f)=(yl b m).testBit w:=fun h w=>by rw [Bool.eq_iff_iff,decide_eq_true_iff];exact h w
  have ub:∀ m g,(uns b m).testBit g=(decide (g < b.banes.length) && !(yl b m).testBit (bn b g)):=fun m g=>by
    rw [uns_bit]
    by_cases hg:g < b.banes.length
    · rw [decide_eq_true hg,Bool.true_and,Bool.true_and]
      congr 1
      rw [Bool.eq_iff_iff,stk_bit]
      exact ⟨fun h=>h.2,fun h=>⟨hg,h⟩⟩
    · rw [decide_eq_false hg,Bool.false_and,Bool.false_and]
  unfold r__law_defends d__law_defends
  walk_at "ev"
  rw [e1]
  walk_at "ev"
  rw [show encN (List.range b.banes.length)=(List.range b.banes.length).map pN from rfl]
  rw [compL_flt pN (fun g => !(yl b held).testBit (bn b g)) (fun g=>pN (2 ^ g)) (List.range b.banes.length) fun g hg=>⟨_,rfl,by
    have hg:=List.mem_range.mp hg
    walk_at "ev"
    rw [bn_get hg]
    walk_at "ev"
    rw [d h1],fun _=>by
    have hg:=List.mem_range.mp hg
    walk_at "ev"⟩,enc_map]
  walk_at "ev"
  rw [pw_eq _ _ _ (ub held)]
  walk_at "ev"
  rw [e2]
  walk_at "ev"
  rw [show encN (List.range b.banes.length)=(List.range b.banes.length).map pN from rfl]
  rw [compL_flt pN (fun g => !(yl b (uns b held)).testBit (bn b g)) (fun g=>pN (2 ^ g)) (List.range b.banes.length) fun g hg=>⟨_,rfl,by
    have hg:=List.mem_range.mp hg
    walk_at "ev"
    rw [bn_get hg]
    walk_at "ev"
    rw [d h2],fun _=>by
    have hg:=List.mem_range.mp hg
    walk_at "ev"⟩,enc_map]
  walk_at "ev"
  rw [pw_eq _ _ _ (ub (uns b held))]
  walk_at "ev"
  rfl
noncomputable def it (b:Bk):Nat→Nat
  | 0=>0
  | i + 1=>dfd b (it b i)
theorem it_lt (b:Bk):∀ i,it b i < 2 ^ b.banes.length
  | 0=>Nat.two_pow_pos _
  | i + 1=>dfd_lt b _
theorem it_mono {b:Bk} (ok:b.Ok):∀ (i:Nat) {g:Nat},(it b i).testBit g=true→(it b (i + 1)).testBit g=true
  | 0,g,h=>by unfold it at h;simp at h
  | i + 1,g,h=>dfd_mono ok (fun w hw=>it_mono ok i hw) h
noncomputable def lft (b:Bk) (i:Nat):Nat:=((List.range b.banes.length).filter fun g => !(it b i).testBit g).length
theorem lft_lt {b:Bk} (ok:b.Ok) {i:Nat} (h:it b (i + 1)≠it b i):lft b (i + 1) < lft b i:=by
  obtain ⟨g,hg1,hg2⟩:∃ g,(it b (i + 1)).testBit g=true∧(it b i).testBit g=false:=by
    refine Classical.byContradiction fun hn=>h ?_
    refine Nat.eq_of_testBit_eq fun g => ?_
    cases h1:(it b i).testBit g with
    | true=>exact it_mono ok i h1
    | false =>
      cases h2:(it b (i + 1)).testBit g with
      | false=>rfl
      | true=>exact absurd ⟨g,h2,h1⟩ hn
  exact filter_lt (x:=g) (List.mem_range.mpr (bit_lt (it_lt b (i + 1)) hg1)) (by simp [hg2]) (by simp [hg1]) fun y hy=>by
    cases h2:(it b i).testBit y with
    | false=>rfl
    | true=>rw [it_mono ok i h2] at hy;cases hy
noncomputable def Last (b:Bk) (m:Nat):Prop:=it b (m + 1)=it b m∧∀ j,j < m→it b (j + 1)≠it b j
theorem Last.unique {b:Bk} {m m':Nat} (h:Last b m) (h':Last b m'):m=m':=by
  rcases Nat.lt_trichotomy m m' with q | q | q
  · exact absurd h.1 (h'.2 m q)
  · exact q
  · exact absurd h'.1 (h.2 m' q)
noncomputable def itL (b:Bk) (m:Nat):List Nat:=(List.range (m + 1)).map (it b)
theorem e_rounds {b:Bk} (ok:b.Ok):∃ m,r_rounds [b.enc]=some (.lst (encN (itL b m)))∧Last b m∧m≤8:=by
  have h8:=ok.g8
  unfold r_rounds d_rounds
  walk_at "ev"
  obtain ⟨γ',e,i,rfl,h1,h2,h3⟩:=whileL_by (t:=truB (bin2 pNe (mCall r_defended (aCons (mVar 0) (aCons (mVar 1) aNil))) (mVar 1))) (b:=b1_rounds)
    (Post:=fun γ=>∃ i,γ=[.fz b.enc,.fz (pN (it b i)),.ow (encN (itL b i))]∧it b (i + 1)=it b i∧(∀ j,j < i→it b (j + 1)≠it b j)∧lft b i + i≤lft b 0)
    (fun n γ=>∃ i,γ=[.fz b.enc,.fz (pN (it b i)),.ow (encN (itL b i))]∧(∀ j,j < i→it b (j + 1)≠it b j)∧n=lft b i∧lft b i + i≤lft b 0)
    (by
      rintro n γ ⟨i,rfl,q1,rfl,q3⟩
      have ht:(truB (bin2 pNe (mCall r_defended (aCons (mVar 0) (aCons (mVar 1) aNil))) (mVar 1))) [.fz b.enc,.fz (pN (it b i)),.ow (encN (itL b i))]=some (!(it b (i + 1)==it b i)):=by
        walk_at "ev"
        rw [e_defended ok]
        walk_at "ev"
        rfl
      by_cases he:it b (i + 1)=it b i
      · exact .inl ⟨by rw [ht,show (it b (i + 1)==it b i)=true by rw [beq_iff_eq];exact he];rfl,i,rfl,he,q1,q3⟩
      · have hlf:=lft_lt ok he
        refine .inr ⟨by rw [ht,show (it b (i + 1)==it b i)=false by rw [beq_eq_false_iff_ne];exact he];rfl,_,lft b (i + 1),?_,hlf,i + 1,rfl,fun j hj => ?_,rfl,by omega⟩
        · have hi:i≤8:=by
            have:=List.length_filter_le (fun g => !(it b 0).testBit g) (List.range b.banes.length)
            rw [List.length_range] at this
            unfold lft at q3
            omega
          unfold b1_rounds
          walk_at "ev"
          rw [e_defended ok]
          walk_at "ev"
          rw [appK_ow (by rw [encN_len];unfold itL;rw [List.length_map,List.length_range];omega) rfl]
          walk_at "ev"
          unfold itL
          rw [List.range_succ (n:=i + 1),List.map_append,← encN_app]
          rfl
        · by_cases hj2:j=i
          · subst hj2;exact he
          · exact q1 j (by omega))
    1000 (lft b 0) [.fz b.enc,.fz (pN (it b 0)),.ow (encN (itL b 0))] ⟨0,rfl,by simp,rfl,by omega⟩ (by
      have:=List.length_filter_le (fun g => !(it b 0).testBit g) (List.range b.banes.length)
      rw [List.length_range] at this
      unfold lft
      omega)
  have hi:i≤8:=by
    have:=List.length_filter_le (fun g => !(it b 0).testBit g) (List.range b.banes.length)
    rw [List.length_range] at this
    unfold lft at h3
    omega
  unfold sWhile
  rw [show ([Slot.fz b.enc,Slot.fz (pN 0),Slot.ow [pN 0]]:PEnv)=[.fz b.enc,.fz (pN (it b 0)),.ow (encN (itL b 0))] from rfl,e]
  walk_at "ev"
  exact ⟨i,rfl,⟨h1,h2⟩,hi⟩
theorem forL_find {α:Type} {g:PV→PEnv→Option PEnv} {b:MSt} (f:α→PV) (v:α→PV) (p:α→Bool) (I:PEnv→Prop):∀ (xs:List α) (γ:PEnv),I γ →
    (∀ x∈xs,∀ γ,I γ→∃ γ1,g (f x) γ=some γ1∧(p x=false→∃ γ2,b γ1=some (.nx γ2)∧I γ2)∧(p x=true→b γ1=some (.rt (v x)))) →
    (xs.find? p=none∧∃ γ',forL g b (xs.map f) γ=some (.nx γ')∧I γ')∨∃ x,xs.find? p=some x∧forL g b (xs.map f) γ=some (.rt (v x))
  | [],γ,h0,_ => .inl ⟨rfl,γ,rfl,h0⟩
  | x :: xs,γ,h0,step=>by
    refine xq fun _ kq=>?_
    refine x1_3 (step x (by simp) γ h0) fun γ1 e1 h1 h2 => ?_
    apply kq
    cases hp:p x with
    | true =>
      refine .inr ⟨x,by simp [hp],?_⟩
      rw [List.map_cons]
      unfold forL
      rw [e1,Option.bind_some,h2 hp]
      rfl
    | false =>
      refine x1_2 (h1 hp) fun γ2 e2 h3 => ?_
      rw [List.map_cons,forL_nx e1 e2,List.find?_cons_of_neg (by simp [hp])]
      exact forL_find f v p I xs γ2 h3 fun y hy=>step y (by simp [hy])
noncomputable def rkV (b:Bk) (n g:Nat):PV:=match (List.range n).find? (fun j=>(it b j).testBit g) with
  | some j=>pN j
  | none => .non
theorem e_rank_in {b:Bk} {m g:Nat} (hg:g≤1000) (hm:m≤8):r_rank_in [.lst (encN (itL b m)),pN g]=some (rkV b (m + 1) g):=by
  unfold r_rank_in d_rank_in
  walk_at "ev"
  rw [enumN,show (itL b m).length=m + 1 by unfold itL;simp]
  have eg:∀ j,j∈List.range (m + 1)→(itL b m).getD j 0=it b j:=fun j hj=>by
    have:=List.mem_range.mp hj
    unfold itL
    simp [this]
  rw [show ((List.range (m + 1)).map fun j=>PV.tup [pN j,pN ((itL b m).getD j 0)])=(List.range (m + 1)).map fun j=>PV.tup [pN j,pN (it b j)] from List.map_congr_left fun j hj=>by rw [eg j hj]]
  rcases forL_find (g:=gSet2 2 3) (b:=b1_rank_in) (fun j=>PV.tup [pN j,pN (it b j)]) pN (fun j=>(it b j).testBit g) (fun γ=>∃ s2 s3,γ=[.fz (.lst (encN (itL b m))),.fz (pN g),s2,s3])
    (List.range (m + 1)) [.fz (.lst (encN (itL b m))),.fz (pN g),.un,.un] ⟨.un,.un,rfl⟩ (by
      rintro j hj γ ⟨s2,s3,rfl⟩
      refine ⟨_,rfl,?_⟩
      have e:b1_rank_in [.fz (.lst (encN (itL b m))),.fz (pN g),.fz (pN j),.fz (pN (it b j))]=ifK (sRetV 2) sNx [.fz (.lst (encN (itL b m))),.fz (pN g),.fz (pN j),.fz (pN (it b j))] ((it b j).testBit g):=by
        unfold b1_rank_in
        walk_at "ev"
        rw [insB_pow]
      show (_→∃ γ2,b1_rank_in [.fz (.lst (encN (itL b m))),.fz (pN g),.fz (pN j),.fz (pN (it b j))]=_∧_)∧(_→b1_rank_in [.fz (.lst (encN (itL b m))),.fz (pN g),.fz (pN j),.fz (pN (it b j))]=_)
      rw [e]
      cases (it b j).testBit g with
      | true=>exact ⟨fun h=>(by cases h),fun _=>rfl⟩
      | false=>exact ⟨fun _=>⟨_,rfl,_,_,rfl⟩,fun h=>by cases h⟩) with ⟨ha,γ',e,s2,s3,rfl⟩ | ⟨j,ha,e⟩
  · rw [e]
    walk_at "ev"
    unfold rkV
    rw [ha]
  · rw [e]
    walk_at "ev"
    unfold rkV
    rw [ha]
noncomputable def RuleOk2 (g w:Nat) (r:Rule):Prop:=g≤r.head∧r.head < w∧r.body.Pairwise (· < ·)∧∀ x∈r.body,x < w
theorem Bk.Ok.of2 {w:Nat} {banes:List Nat} {rules:List Rule} (h8:banes.length≤8) (hgw:banes.length≤w) (hw:w≤60) (hb:∀ x∈banes,x < w) (hr:∀ r∈rules,RuleOk2 banes.length w r) (hl:rules.length≤40):(⟨w,banes,rules⟩:Bk).Ok :=
  ⟨h8,hgw,hw,by show rules.length≤48;omega,hb,fun r h=>⟨(hr r h).1,(hr r h).2.1⟩,fun r h=>⟨(hr r h).2.2.1,(hr r h).2.2.2⟩⟩
theorem ow_rule_end2 {rules:List Rule} {r:Rule} {n w:Nat} (k1:∀ q∈rules,RuleOk2 n w q) (hr:RuleOk2 n w r):∀ q∈rules++[r],RuleOk2 n w q:=by
  intro q hq
  rcases List.mem_append.mp hq with z | z
  · exact k1 q z
  · rw [List.mem_singleton.mp z];exact hr
theorem runO_3' {N:Nat} {m:MSt} {a0 a1 a2:PV}:runO N 3 m [a0,a1,a2]=(m (startG N [a0,a1,a2])).bind outO:=rfl
theorem ruleof_ok {g w head:Nat} {picks:List Nat} (h1:g≤head) (h2:head < w):RuleOk2 g w ⟨head,(List.range w).filter fun k=>decide (k∈picks)⟩ :=
  ⟨h1,h2,List.Pairwise.filter _ List.pairwise_lt_range,fun x hx=>List.mem_range.mp (List.mem_filter.mp hx).1⟩
theorem size6 (i:Nat) (h:i < 6):∃ size,size≤6∧([pN 0,pN 1,pN 1,pN 2,pN 2,pN 3])[i]?=some (pN size):=by
  have:i=0∨i=1∨i=2∨i=3∨i=4∨i=5:=by omega
  rcases this with rfl | rfl | rfl | rfl | rfl | rfl
  · exact ⟨0,by decide,rfl⟩
  · exact ⟨1,by decide,rfl⟩
  · exact ⟨1,by decide,rfl⟩
  · exact ⟨2,by decide,rfl⟩
  · exact ⟨2,by decide,rfl⟩
  · exact ⟨3,by decide,rfl⟩
theorem e_rule_of2 (c:Int) {g w:Nat} (h:g < w) (hw:w≤60):∃ r:Rule,r__law_rule_of_2 [.int c,pN g,pN w]=some r.enc∧RuleOk2 g w r:=by
  unfold r__law_rule_of_2 d__law_rule_of_2
  (try simp (disch:=first | assumption | omega | (simp only [encN_len,tr_len,encN_len,List.length_map,List.length_range,List.length_cons,List.length_nil,List.length_append];omega) | decide) only [encN_len,encN_flat,enc_ix0,enc_ix1,enc_ix2,renc_ix0,renc_ix1,flat_benc,flat_renc,e_inside,testBit_one,testBit_zero',pAdd_ni,pAdd_in,e_cell,runO_3',outO_ro',EVc,List.length_cons,List.length_nil,if_true,List.map_cons,List.map_nil,List.replicate_zero,List.replicate_succ,List.cons_append,List.nil_append,List.getElem?_cons_zero,List.getElem?_cons_succ,Option.bind_some,Option.map_some,List.set_cons_zero,List.set_cons_succ,List.length_map,List.length_range,List.all_nil,List.all_cons,List.length_append])
  generalize ((c % ((2147483629:Nat):Int)).toNat + 1) * 48271 % 2147483647=n0
  have hh:n0 / 3 % (w - g) < w - g:=Nat.mod_lt _ (by omega)
  generalize n0 / 3 % (w - g)=hd at *
  generalize n0 * 16807 % 2147483647=n1
  refine x1_2 (size6 (n1 / 7 % 6) (Nat.mod_lt _ (by decide))) fun size hs e => ?_
  rw [e]
  (try simp (disch:=first | assumption | omega | (simp only [encN_len,tr_len,encN_len,List.length_map,List.length_range,List.length_cons,List.length_nil,List.length_append];omega) | decide) only [encN_len,encN_flat,enc_ix0,enc_ix1,enc_ix2,renc_ix0,renc_ix1,flat_benc,flat_renc,e_inside,testBit_one,testBit_zero',pAdd_ni,pAdd_in,e_cell,runO_3',outO_ro',EVc,List.length_cons,List.length_nil,if_true,List.map_cons,List.map_nil,List.replicate_zero,List.replicate_succ,List.cons_append,List.nil_append,List.getElem?_cons_zero,List.getElem?_cons_succ,Option.bind_some,Option.map_some,List.set_cons_zero,List.set_cons_succ,List.length_map,List.length_range,List.all_nil,List.all_cons,List.length_append])
  obtain ⟨γ',e,number,picks,s7,rfl,h1⟩:=forR_n (g:=gSet 7) (b:=b1__law_rule_of_2) (fun j γ=>∃ (number:Nat) (picks:List Nat) (s7:Slot),γ=[.fz (.int c),.fz (pN g),.fz (pN w),.fz (pN number),.fz (pN (g + hd)),.fz (pN size),.ow (encN picks),s7]∧picks.length=j)
    size [.fz (.int c),.fz (pN g),.fz (pN w),.fz (pN n1),.fz (pN (g + hd)),.fz (pN size),.ow (encN []),.un] ⟨n1,[],.un,rfl,rfl⟩ (by
      rintro j γ hj ⟨number,picks,s7,rfl,h1⟩
      refine ⟨_,_,rfl,?_,number * 69621 % 2147483647,picks++[number * 69621 % 2147483647 / 11 % w],.fz (pN j),rfl,by simp [h1]⟩
      unfold b1__law_rule_of_2
      (try simp (disch:=first | assumption | omega | (simp only [encN_len,tr_len,encN_len,List.length_map,List.length_range,List.length_cons,List.length_nil,List.length_append];omega) | decide) only [encN_len,encN_flat,enc_ix0,enc_ix1,enc_ix2,renc_ix0,renc_ix1,flat_benc,flat_renc,e_inside,testBit_one,testBit_zero',pAdd_ni,pAdd_in,e_cell,runO_3',outO_ro',EVc,List.length_cons,List.length_nil,if_true,List.map_cons,List.map_nil,List.replicate_zero,List.replicate_succ,List.cons_append,List.nil_append,List.getElem?_cons_zero,List.getElem?_cons_succ,Option.bind_some,Option.map_some,List.set_cons_zero,List.set_cons_succ,List.length_map,List.length_range,List.all_nil,List.all_cons,List.length_append])
      rw [appK_ow (by rw [encN_len];omega) rfl]
      (try simp (disch:=first | assumption | omega | (simp only [encN_len,tr_len,encN_len,List.length_map,List.length_range,List.length_cons,List.length_nil,List.length_append];omega) | decide) only [encN_len,encN_flat,enc_ix0,enc_ix1,enc_ix2,renc_ix0,renc_ix1,flat_benc,flat_renc,e_inside,testBit_one,testBit_zero',pAdd_ni,pAdd_in,e_cell,runO_3',outO_ro',EVc,List.length_cons,List.length_nil,if_true,List.map_cons,List.map_nil,List.replicate_zero,List.replicate_succ,List.cons_append,List.nil_append,List.getElem?_cons_zero,List.getElem?_cons_succ,Option.bind_some,Option.map_some,List.set_cons_zero,List.set_cons_succ,List.length_map,List.length_range,List.all_nil,List.all_cons,List.length_append])
      simp [encN])
  rw [show ([]:List PV)=encN [] from rfl,e]
  (try simp (disch:=first | assumption | omega | (simp only [encN_len,tr_len,encN_len,List.length_map,List.length_range,List.length_cons,List.length_nil,List.length_append];omega) | decide) only [encN_len,encN_flat,enc_ix0,enc_ix1,enc_ix2,renc_ix0,renc_ix1,flat_benc,flat_renc,e_inside,testBit_one,testBit_zero',pAdd_ni,pAdd_in,e_cell,runO_3',outO_ro',EVc,List.length_cons,List.length_nil,if_true,List.map_cons,List.map_nil,List.replicate_zero,List.replicate_succ,List.cons_append,List.nil_append,List.getElem?_cons_zero,List.getElem?_cons_succ,Option.bind_some,Option.map_some,List.set_cons_zero,List.set_cons_succ,List.length_map,List.length_range,List.all_nil,List.all_cons,List.length_append])
  rw [compNF (fun k=>decide (k∈picks)) (List.range w) fun k hk=>⟨_,rfl,by (try simp (disch:=first | assumption | omega | (simp only [encN_len,tr_len,encN_len,List.length_map,List.length_range,List.length_cons,List.length_nil,List.length_append];omega) | decide) only [encN_len,encN_flat,enc_ix0,enc_ix1,enc_ix2,renc_ix0,renc_ix1,flat_benc,flat_renc,e_inside,testBit_one,testBit_zero',pAdd_ni,pAdd_in,e_cell,runO_3',outO_ro',EVc,List.length_cons,List.length_nil,if_true,List.map_cons,List.map_nil,List.replicate_zero,List.replicate_succ,List.cons_append,List.nil_append,List.getElem?_cons_zero,List.getElem?_cons_succ,Option.bind_some,Option.map_some,List.set_cons_zero,List.set_cons_succ,List.length_map,List.length_range,List.all_nil,List.all_cons,List.length_append]),rfl⟩]
  (try simp (disch:=first | assumption | omega | (simp only [encN_len,tr_len,encN_len,List.length_map,List.length_range,List.length_cons,List.length_nil,List.length_append];omega) | decide) only [encN_len,encN_flat,enc_ix0,enc_ix1,enc_ix2,renc_ix0,renc_ix1,flat_benc,flat_renc,e_inside,testBit_one,testBit_zero',pAdd_ni,pAdd_in,e_cell,runO_3',outO_ro',EVc,List.length_cons,List.length_nil,if_true,List.map_cons,List.map_nil,List.replicate_zero,List.replicate_succ,List.cons_append,List.nil_append,List.getElem?_cons_zero,List.getElem?_cons_succ,Option.bind_some,Option.map_some,List.set_cons_zero,List.set_cons_succ,List.length_map,List.length_range,List.all_nil,List.all_cons,List.length_append])
  exact ⟨⟨g + hd,_⟩,rfl,ruleof_ok (by omega) (by omega)⟩
theorem xq_seq {τ:Type} {s1 s2:MX τ} {γ γ':PEnv} {t t':τ} (h:s1 γ t=some (.nx γ' t')):xSeq s1 s2 γ t=s2 γ' t':=by
  unfold xSeq;rw [h];rfl
theorem xq_seqR {τ:Type} {s1 s2:MX τ} {γ:PEnv} {t:τ} {r:PV} (h:s1 γ t=some (.rt r)):xSeq s1 s2 γ t=some (.rt r):=by
  unfold xSeq;rw [h];rfl
theorem xq_seqB {τ:Type} {s1 s2:MX τ} {γ γ':PEnv} {t t':τ} (h:s1 γ t=some (.bk γ' t')):xSeq s1 s2 γ t=some (.bk γ' t'):=by
  unfold xSeq;rw [h];rfl
theorem xq_lift {τ:Type} {j:Nat} {m:MSt} {γ γ':PEnv} {t:τ} (h:m γ=some (.nx γ')) (hj:opqAt γ' j=opqAt γ j):xLift j m γ t=some (.nx γ' t):=by
  unfold xLift;rw [h]
  show (if opqAt γ' j=opqAt γ j then some (OutX.nx γ' t) else none)=_
  rw [if_pos hj]
theorem xq_liftB {τ:Type} {j:Nat} {m:MSt} {γ γ':PEnv} {t:τ} (h:m γ=some (.bk γ')) (hj:opqAt γ' j=opqAt γ j):xLift j m γ t=some (.bk γ' t):=by
  unfold xLift;rw [h]
  show (if opqAt γ' j=opqAt γ j then some (OutX.bk γ' t) else none)=_
  rw [if_pos hj]
theorem xq_ifF {τ:Type} {j:Nat} {rd:τ→Addr→PV} {tt:PEnv→Option Bool} {s1 s2:MX τ} {γ:PEnv} {t:τ} (h:∀ c,tt (γ.set j (.fz (rd t c)))=some false):xIfA j rd tt s1 s2 γ t=s2 γ t:=by
  unfold xIfA;rw [allB_ok h];rfl
theorem xq_ret {τ:Type} {j:Nat} {rd:τ→Addr→PV} {m:MEx} {γ:PEnv} {t:τ} {r:PV} (h:∀ c,m (γ.set j (.fz (rd t c)))=some r) (hf:flat r=true):xRetA j rd m γ t=some (.rt r):=by
  unfold xRetA;rw [allB_ok h]
  show (if flat r=true then some (OutX.rt r) else none)=_
  rw [if_pos hf]
theorem xq_meth {τ:Type} {j:Nat} {ms:List Nat} {okm:τ→Bool} {g:Addr→List PV→τ→Option τ} {ma:PEnv→Option (List PV)} {γ:PEnv} {t t':τ} {qs:List PV} {a:Addr} (h1:ma γ=some qs) (h2:opqAt γ j=some a) (h3:okm t=true) (h4:g a qs t=some t'):xMeth j ms okm g ma γ t=some (.nx (frz ms γ) t'):=by
  unfold xMeth;rw [h1,Option.bind_some,h2,Option.bind_some,if_pos h3,h4];rfl
theorem xq_fset {ms:List Nat} {f:Str} {m:MEx} {γ:PEnv} {t t':OT} {r:PV} (h:m γ=some r) (hp:putT f r t=some t'):xFset ms f m γ t=some (.nx (frz ms γ) t'):=by
  unfold xFset;rw [h,Option.bind_some,hp];rfl
theorem xq_make {j:Nat} {ms:List Nat} {ma:PEnv→Option (List PV)} {g:Addr→List PV→OT→Option OT} {mx:MX OT} {γ:PEnv} {qs:List PV} {t:OT} {r:PV} (h1:ma γ=some qs) (h2:∀ a,g a qs ⟨[],[],none⟩=some t) (hj:j < γ.length) (h3:∀ a,mx ((frz ms γ).set j (.fz (.opq a))) t=some (.rt r)):sMake j ms ma g mx γ=some (.rt r):=by
  unfold sMake
  rw [h1,Option.bind_some,allB_ok h2,Option.bind_some,allB_ok h3,Option.bind_some]
  show (if j < γ.length then some (Out.rt r) else none)=_
  rw [if_pos hj]
theorem forX_q {τ α:Type} {j:Nat} {g:PV→PEnv→Option PEnv} {b:MX τ} (f:α→PV) (I:Nat→PEnv→τ→Prop) (Post:PEnv→τ→Prop) (r:PV) (K:Nat):∀ (xs:List α) (k:Nat) (γ:PEnv) (t:τ),k + xs.length≤K→I k γ t →
    (∀ k x,k < K→x∈xs→∀ γ t,I k γ t→∃ γ1,g (f x) γ=some γ1∧opqAt γ1 j=opqAt γ j∧((∃ γ2 t2,b γ1 t=some (.nx γ2 t2)∧I (k + 1) γ2 t2)∨(∃ γ2 t2,b γ1 t=some (.bk γ2 t2)∧Post γ2 t2)∨b γ1 t=some (.rt r))) →
    (∃ γ' t',forX j g b (xs.map f) γ t=some (.nx γ' t')∧(I (k + xs.length) γ' t'∨Post γ' t'))∨forX j g b (xs.map f) γ t=some (.rt r)
  | [],k,γ,t,_,h0,_ => .inl ⟨γ,t,rfl,.inl h0⟩
  | x :: xs,k,γ,t,hK,h0,step=>by
    rw [List.length_cons] at hK
    refine xq fun _ kq=>?_
    refine x1_3 (step k x (by omega) (by simp) γ t h0) fun γ1 e1 ej h => ?_
    apply kq
    rw [List.map_cons,forX,e1,Option.bind_some,if_pos ej]
    rcases h with ⟨γ2,t2,e2,h2⟩ | ⟨γ2,t2,e2,h2⟩ | e2
    · rw [e2]
      have:=forX_q f I Post r K xs (k + 1) γ2 t2 (by omega) h2 fun k y hk hy=>step k y hk (by simp [hy])
      rw [List.length_cons,show k + (xs.length + 1)=k + 1 + xs.length by omega]
      exact this
    · rw [e2];exact .inl ⟨γ2,t2,rfl,.inr h2⟩
    · rw [e2];exact .inr rfl
inductive Una where
  | no | yes (g s:Nat)
noncomputable def Una.pv:Una→PV
  | .no => .non
  | .yes g s => .tup [pN g,pN s]
noncomputable def Una.none:Una→Bool
  | .no=>true
  | _=>false
noncomputable def tk (b:Bk) (h:Nat) (u:Una) (n:Nat):OT:=⟨["book","held","unanswered"],[b.enc,pN h,u.pv],some n⟩
noncomputable def aim (h:Nat):Una→Nat
  | .no=>h
  | .yes _ s=>s
noncomputable def tkV (C:Addr) (b:Bk) (h:Nat) (u:Una) (c:Addr):PV := .obj C ["book","held","unanswered","moves"] [b.enc,pN h,u.pv,.opq c]
theorem rd_tk (C:Addr) (b:Bk) (h:Nat) (u:Una) (n:Nat) (c:Addr):rdObj C "moves" (tk b h u n) c=tkV C b h u c:=rfl
theorem fld_book (C:Addr) (b:Bk) (h:Nat) (u:Una) (c:Addr):fldK C "book" (tkV C b h u c)=some b.enc:=by
  show (if C=C then _ else none)=_
  rw [if_pos rfl];rfl
theorem fld_held (C:Addr) (b:Bk) (h:Nat) (u:Una) (c:Addr):fldK C "held" (tkV C b h u c)=some (pN h):=by
  show (if C=C then _ else none)=_
  rw [if_pos rfl];rfl
theorem fld_una (C:Addr) (b:Bk) (h:Nat) (u:Una) (c:Addr):fldK C "unanswered" (tkV C b h u c)=some u.pv:=by
  show (if C=C then _ else none)=_
  rw [if_pos rfl];rfl
theorem ev_mFld (C:Addr) (f:Str) (m:MEx) (γ:PEnv):mFld C f m γ=(m γ).bind (fldK C f):=rfl
noncomputable def mthK (C:Addr) (f:Str) (g:List PV→Option PV) (o:Option (List PV)) (q:PV):Option PV:=if isC C f q=true then o.bind fun ps=>g (q :: ps) else none
theorem ev_mMeth (C:Addr) (f:Str) (g:List PV→Option PV) (m:MEx) (ma:PEnv→Option (List PV)) (γ:PEnv):mMeth C f g m ma γ=(m γ).bind (mthK C f g (ma γ)):=rfl
theorem mth_of {C:Addr} {f:Str} (hf:(["book","held","unanswered","moves"]:List Str).contains f=false) (g:List PV→Option PV) (ps:List PV) (b:Bk) (h:Nat) (u:Una) (c:Addr):mthK C f g (some ps) (tkV C b h u c)=g (tkV C b h u c :: ps):=by
  unfold mthK
  rw [show isC C f (tkV C b h u c)=true by show ((C==C) && !(["book","held","unanswered","moves"]:List Str).contains f)=true;rw [hf];simp]
  rfl
theorem mth_turn (C:Addr) (g:List PV→Option PV) (ps:List PV) (b:Bk) (h:Nat) (u:Una) (c:Addr):mthK C "turn" g (some ps) (tkV C b h u c)=g (tkV C b h u c :: ps):=mth_of (by decide +kernel) g ps b h u c
theorem mth_now (C:Addr) (g:List PV→Option PV) (ps:List PV) (b:Bk) (h:Nat) (u:Una) (c:Addr):mthK C "now" g (some ps) (tkV C b h u c)=g (tkV C b h u c :: ps):=mth_of (by decide +kernel) g ps b h u c
theorem mth_aims (C:Addr) (g:List PV→Option PV) (ps:List PV) (b:Bk) (h:Nat) (u:Una) (c:Addr):mthK C "aims" g (some ps) (tkV C b h u c)=g (tkV C b h u c :: ps):=mth_of (by decide +kernel) g ps b h u c
theorem mth_win (C:Addr) (g:List PV→Option PV) (ps:List PV) (b:Bk) (h:Nat) (u:Una) (c:Addr):mthK C "winner" g (some ps) (tkV C b h u c)=g (tkV C b h u c :: ps):=mth_of (by decide +kernel) g ps b h u c
theorem mth_can (C:Addr) (g:List PV→Option PV) (ps:List PV) (b:Bk) (h:Nat) (u:Una) (c:Addr):mthK C "can_name" g (some ps) (tkV C b h u c)=g (tkV C b h u c :: ps):=mth_of (by decide +kernel) g ps b h u c
theorem una_isN (u:Una):isN u.pv=u.none:=by cases u <;> rfl
noncomputable def trn (u:Una):Str:=if u.none=true then "doubter" else "speaker"
noncomputable def oth (u:Una):Str:=if u.none=true then "speaker" else "doubter"
theorem w_dd:pEq (.str "doubter") (.str "doubter")=some (.bl true):=by rw [pEq_s (by decide +kernel) (by decide +kernel)];rfl
theorem w_sd:pEq (.str "speaker") (.str "doubter")=some (.bl false):=by rw [pEq_s (by decide +kernel) (by decide +kernel),show (("speaker":Str)==("doubter":Str))=false by decide +kernel]
theorem w_ss:pEq (.str "speaker") (.str "speaker")=some (.bl true):=by rw [pEq_s (by decide +kernel) (by decide +kernel)];rfl
theorem n_dd:pNe (.str "doubter") (.str "doubter")=some (.bl false):=by rw [pNe_s (by decide +kernel) (by decide +kernel)];rfl
theorem n_ss:pNe (.str "speaker") (.str "speaker")=some (.bl false):=by rw [pNe_s (by decide +kernel) (by decide +kernel)];rfl
theorem n_sd:pNe (.str "speaker") (.str "doubter")=some (.bl true):=by rw [pNe_s (by decide +kernel) (by decide +kernel),show (("speaker":Str)==("doubter":Str))=false by decide +kernel];rfl
theorem n_ds:pNe (.str "doubter") (.str "speaker")=some (.bl true):=by rw [pNe_s (by decide +kernel) (by decide +kernel),show (("doubter":Str)==("speaker":Str))=false by decide +kernel];rfl
theorem trn_eqd (u:Una):pEq (.str (trn u)) (.str "doubter")=some (.bl u.none):=by
  cases u with
  | no=>exact w_dd
  | yes g s=>exact w_sd
theorem trn_ned (u:Una):pNe (.str (trn u)) (.str "doubter")=some (.bl (!u.none)):=by
  cases u with
  | no=>exact n_dd
  | yes g s=>exact n_sd
theorem trn_nes (u:Una):pNe (.str (trn u)) (.str "speaker")=some (.bl u.none):=by
  cases u with
  | no=>exact n_ds
  | yes g s=>exact n_ss
local macro_rules | `(tactic| walk_at "ev") => `(tactic| try simp (disch:=first | assumption | omega | (simp only [encN_len,List.length_map,List.length_range,List.length_cons,List.length_nil,List.length_append];omega) | decide) only [rd_tk,ev_mFld,fld_book,fld_held,fld_una,una_isN,ev_mMeth,mth_turn,mth_now,mth_aims,mth_win,mth_can,trn_eqd,trn_ned,trn_nes,flat_benc,EVc,List.length_cons,List.length_nil,if_true,List.map_cons,List.map_nil,List.replicate_zero,List.replicate_succ,List.cons_append,List.nil_append,List.getElem?_cons_zero,List.getElem?_cons_succ,Option.bind_some,Option.map_some,List.set_cons_zero,List.set_cons_succ,List.length_map,List.length_range,List.all_nil,List.all_cons,List.length_append])
theorem e_turn (C:Addr) (b:Bk) (h:Nat) (u:Una) (c:Addr):r_Talk_turn C [tkV C b h u c]=some (.str (trn u)):=by
  unfold r_Talk_turn d_Talk_turn
  walk_at "ev"
  cases u with
  | no=>unfold Una.none;walk_at "ev";rfl
  | yes g s=>unfold Una.none;walk_at "ev";rfl
theorem e_now (C:Addr) (b:Bk) (h:Nat) (u:Una) (c:Addr):r_Talk_now C [tkV C b h u c]=some (pN h):=by
  unfold r_Talk_now d_Talk_now
  walk_at "ev"
theorem e_aims (C:Addr) (b:Bk) (h:Nat) (u:Una) (c:Addr):r_Talk_aims C [tkV C b h u c]=some (pN (aim h u)):=by
  unfold r_Talk_aims d_Talk_aims
  walk_at "ev"
  cases u with
  | no=>unfold Una.none;walk_at "ev";rfl
  | yes g s=>unfold Una.none;walk_at "ev";unfold Una.pv;walk_at "ev";rfl
theorem e_winner (C:Addr) {b:Bk} (ok:b.Ok) (h:Nat) (u:Una) (c:Addr):r_Talk_winner C [tkV C b h u c]=some (if (aim h u&&&stk b (2 ^ b.banes.length - 1)==0)=true then .str (oth u) else .non):=by
  unfold r_Talk_winner d_Talk_winner
  walk_at "ev"
  rw [e_aims,e_all_guesses ok]
  walk_at "ev"
  rw [e_struck ok]
  walk_at "ev"
  rw [show (aim h u&&&stk b (2 ^ b.banes.length - 1) != 0) = !(aim h u&&&stk b (2 ^ b.banes.length - 1)==0) from rfl]
  cases hz:(aim h u&&&stk b (2 ^ b.banes.length - 1)==0) with
  | true =>
    walk_at "ev"
    rw [e_turn]
    walk_at "ev"
    unfold oth
    cases u.none <;> rfl
  | false=>walk_at "ev";rfl
theorem e_can_name (C:Addr) {b:Bk} (ok:b.Ok) (h:Nat) (u:Una) (c:Addr) (g s:Nat):r_Talk_can_name C [tkV C b h u c,pN g,pN s]=some (.bl (decide (g∈plN (aim h u&&&stk b s)))):=by
  have h8:=ok.g8
  unfold r_Talk_can_name d_Talk_can_name
  walk_at "ev"
  rw [e_aims,e_struck ok]
  walk_at "ev"
  rw [e_places8 (show b.banes.length≤60 by omega) (Nat.lt_of_le_of_lt Nat.and_le_right (stk_lt b s))]
  walk_at "ev"
theorem runX3 {τ:Type} (m:MX τ) (a:Addr) (p q:PV) (t:τ):runX 3 3 m a [p,q] t=(m [.fz (.opq a),.fz p,.fz q] t).bind outX:=rfl
theorem e_init (C a:Addr) (b:Bk) (h:Nat):r_Talk___init__ C a [b.enc,pN h] ⟨[],[],none⟩=some (tk b h .no 0):=by
  unfold r_Talk___init__ d_Talk___init__
  rw [runX3]
  rw [xq_seq (γ':=[.fz (.opq a),.fz b.enc,.fz (pN h)]) (t':=⟨["book"],[b.enc],none⟩) rfl]
  rw [xq_seq (γ':=[.fz (.opq a),.fz b.enc,.fz (pN h)]) (t':=⟨["book","held"],[b.enc,pN h],none⟩) rfl]
  rw [xq_seq (γ':=[.fz (.opq a),.fz b.enc,.fz (pN h)]) (t':=⟨["book","held","unanswered"],[b.enc,pN h,.non],none⟩) rfl]
  rfl
theorem fapp_tk {ms:List Nat} {m:MEx} {γ:PEnv} {b:Bk} {h n:Nat} {u:Una} {r:PV} (e:m γ=some r) (hn:n≤1000):xFapp ms "moves" m γ (tk b h u n)=some (.nx (frz ms γ) (tk b h u (n + 1))):=by
  unfold xFapp
  rw [e,Option.bind_some]
  show (if n < LIM∧(["book","held","unanswered"]:List Str).contains "moves"=false then _ else none)=_
  rw [if_pos ⟨Nat.lt_of_lt_of_le (Nat.lt_succ_of_le hn) (le_lim (by decide)),by decide +kernel⟩]
  rfl
theorem e_doubted (C a:Addr) {b:Bk} (ok:b.Ok) {h n g s:Nat} (hn:n≤1000) (h1:h.testBit g=true) (h2:(stk b s).testBit g=true):r_Talk_doubted C a [pN g,pN s] (tk b h .no n)=some (tk b h (.yes g s) (n + 1)):=by
  have hc:g∈plN (h&&&stk b s):=by rw [mem_plN,Nat.testBit_and,h1,h2];rfl
  unfold r_Talk_doubted d_Talk_doubted
  rw [runX3]
  rw [xq_seq (γ':=[.fz (.opq a),.fz (pN g),.fz (pN s)]) (t':=tk b h .no n)]
  · rw [xq_seq (γ':=[.fz (.opq a),.fz (pN g),.fz (pN s)]) (t':=tk b h .no n)]
    · rw [xq_seq (γ':=[.fz (.opq a),.fz (pN g),.fz (pN s)]) (t':=tk b h (.yes g s) n)]
      · rw [fapp_tk (r := .tup [.str "doubt",pN g,pN s]) (by walk_at "ev") hn]
        rfl
      · exact xq_fset (r := .tup [pN g,pN s]) (by walk_at "ev") rfl
    · rw [xq_ifF fun c => ?_]
      · rfl
      · walk_at "ev"
        rw [e_can_name C ok]
        walk_at "ev"
        rw [show decide (g∈plN (aim h .no&&&stk b s))=true from decide_eq_true hc]
        walk_at "ev"
  · rw [xq_ifF fun c => ?_]
    · rfl
    · walk_at "ev"
      rw [e_turn]
      walk_at "ev"
      rfl
theorem e_replied (C a:Addr) {b:Bk} (ok:b.Ok) {h n g s g0 s0:Nat} (hn:n≤1000) (h1:s0.testBit g=true) (h2:(stk b s).testBit g=true):r_Talk_replied C a [pN g,pN s] (tk b h (.yes g0 s0) n)=some (tk b s .no (n + 1)):=by
  have hc:g∈plN (s0&&&stk b s):=by rw [mem_plN,Nat.testBit_and,h1,h2];rfl
  unfold r_Talk_replied d_Talk_replied
  rw [runX3]
  rw [xq_seq (γ':=[.fz (.opq a),.fz (pN g),.fz (pN s)]) (t':=tk b h (.yes g0 s0) n)]
  · rw [xq_seq (γ':=[.fz (.opq a),.fz (pN g),.fz (pN s)]) (t':=tk b h (.yes g0 s0) n)]
    · rw [xq_seq (γ':=[.fz (.opq a),.fz (pN g),.fz (pN s)]) (t':=tk b s (.yes g0 s0) n)]
      · rw [xq_seq (γ':=[.fz (.opq a),.fz (pN g),.fz (pN s)]) (t':=tk b s .no n)]
        · rw [fapp_tk (r := .tup [.str "reply",pN g,pN s]) (by walk_at "ev") hn]
          rfl
        · exact xq_fset (r := .non) (by walk_at "ev") rfl
      · exact xq_fset (r:=pN s) (by walk_at "ev") rfl
    · rw [xq_ifF fun c => ?_]
      · rfl
      · walk_at "ev"
        rw [e_can_name C ok]
        walk_at "ev"
        rw [show decide (g∈plN (aim h (.yes g0 s0)&&&stk b s))=true from decide_eq_true hc]
        walk_at "ev"
  · rw [xq_ifF fun c => ?_]
    · rfl
    · walk_at "ev"
      rw [e_turn]
      walk_at "ev"
      rfl
local macro_rules | `(tactic| walk_at "ev") => `(tactic| try simp (disch:=first | assumption | omega | (simp only [encN_len,tr_len,encN_len,List.length_map,List.length_range,List.length_cons,List.length_nil,List.length_append];omega) | decide) only [encN_len,encN_flat,enc_ix0,enc_ix1,enc_ix2,renc_ix0,renc_ix1,flat_benc,flat_renc,e_inside,testBit_one,testBit_zero',pAdd_ni,pAdd_in,e_cell,runO_3',outO_ro',EVc,List.length_cons,List.length_nil,if_true,List.map_cons,List.map_nil,List.replicate_zero,List.replicate_succ,List.cons_append,List.nil_append,List.getElem?_cons_zero,List.getElem?_cons_succ,Option.bind_some,Option.map_some,List.set_cons_zero,List.set_cons_succ,List.length_map,List.length_range,List.all_nil,List.all_cons,List.length_append])
theorem e_shapedB {shape g w:Nat} {banes:List Nat} (hg:g≤8) (hgw:g≤w) (hl:banes.length=g) (hb:∀ x∈banes,x < w) (hs:shape=1∨shape=2→∀ x∈banes,g≤x) :
    ∃ rules:List Rule,r__law_shaped_2 [pN shape,.lst (encN banes),pN g]=some (rules.map Rule.enc)∧(∀ r∈rules,RuleOk2 g w r)∧rules.length≤8:=by
  unfold r__law_shaped_2 d__law_shaped_2
  walk_at "ev"
  obtain ⟨γ',e,rules,s4,s5,rfl,h1,h2⟩:=forR_n (g:=gSet 4) (b:=b1__law_shaped_2) (fun j γ=>∃ (rules:List Rule) (s4 s5:Slot),γ=[.fz (pN shape),.fz (.lst (encN banes)),.fz (pN g),.ow (rules.map Rule.enc),s4,s5]∧(∀ r∈rules,RuleOk2 g w r)∧rules.length≤j)
    g [.fz (pN shape),.fz (.lst (encN banes)),.fz (pN g),.ow ([].map Rule.enc),.un,.un] ⟨[],.un,.un,rfl,by simp,by simp⟩ (by
      rintro j γ hj ⟨rules,s4,s5,rfl,h1,h2⟩
      have key:∃ (rules':List Rule) (s5':Slot),b1__law_shaped_2 [.fz (pN shape),.fz (.lst (encN banes)),.fz (pN g),.ow (rules.map Rule.enc),.fz (pN j),s5]=some (.nx [.fz (pN shape),.fz (.lst (encN banes)),.fz (pN g),.ow (rules'.map Rule.enc),.fz (pN j),s5'])∧(∀ r∈rules',RuleOk2 g w r)∧rules'.length≤j + 1:=by
        unfold b1__law_shaped_2
        walk_at "ev"
        rw [andK_b (b:=decide (j + 2 < g)) (by walk_at "ev"),Option.bind_some,orK_b (b:=shape==2) (by walk_at "ev")]
        walk_at "ev"
        cases hc:((shape==1&&decide (j + 2 < g))||shape==2) with
        | false=>walk_at "ev";exact ⟨rules,_,rfl,h1,by omega⟩
        | true =>
          have hsh:shape=1∨shape=2:=by
            rw [Bool.or_eq_true,Bool.and_eq_true,beq_iff_eq,beq_iff_eq] at hc
            exact hc.imp (fun h=>h.1) id
          have hmod:=Nat.mod_lt (j + 1) (show 0 < g by omega)
          have hj':j < banes.length:=by omega
          have eg:banes[j]?=some banes[j]:=List.getElem?_eq_getElem hj'
          have hm:=List.getElem_mem hj'
          have hlt:=hb _ hm
          have hge:=hs hsh _ hm
          walk_at "ev"
          rw [eg]
          walk_at "ev"
          obtain ⟨nb,enb⟩:=notIn_rule ⟨banes[j],[(j + 1) % g]⟩ rules
          rw [show (PV.tup [pN banes[j],PV.tup [pN ((j + 1) % g)]])=Rule.enc ⟨banes[j],[(j + 1) % g]⟩ from rfl,enb]
          walk_at "ev"
          cases nb with
          | false=>walk_at "ev";exact ⟨rules,_,rfl,h1,by omega⟩
          | true =>
            walk_at "ev"
            rw [appK_ow (by rw [List.length_map];omega) rfl]
            walk_at "ev"
            exact ⟨rules++[⟨banes[j],[(j + 1) % g]⟩],_,by rw [List.map_append];rfl,ow_rule_end2 h1 ⟨hge,hlt,by simp,by simp;omega⟩,by simp;omega⟩
      refine xq fun _ kq=>?_
      refine x2_3 (key) fun rules' s5' e q1 q2 => ?_
      apply kq
      exact ⟨_,_,rfl,e,rules',_,s5',rfl,q1,q2⟩)
  rw [show ([]:List PV)=([]:List Rule).map Rule.enc from rfl,e]
  walk_at "ev"
  exact ⟨rules,rfl,h1,by omega⟩
theorem e_book_of5 (ns:List Int) (hn:ns.length≤63) {g w:Nat} (cut:Nat) (hg:g≤8) (hgw:g≤w) (hw:w≤60):∃ b:Bk,r__law_book_of_5 [.lst (ns.map .int),pN g,pN w,pN cut]=some b.enc∧b.Ok∧b.banes.length=g∧b.words=w:=by
  unfold r__law_book_of_5 d__law_book_of_5
  walk_at "ev"
  rw [ifK_setn (3 * ((ns.getD 1 0 % ((4:Nat):Int)).toNat % 2)) (ns.getD 1 0 % ((4:Nat):Int)).toNat (by walk_at "ev") rfl]
  have h4:=imod_lt (ns.getD 1 0) (show 0 < 4 by decide)
  obtain ⟨shape,es,hs⟩:∃ shape,(if (w==g)=true then 3 * ((ns.getD 1 0 % ((4:Nat):Int)).toNat % 2) else (ns.getD 1 0 % ((4:Nat):Int)).toNat)=shape∧(shape=0∨shape=3∨((shape=1∨shape=2)∧g < w)):=by
    refine ⟨_,rfl,?_⟩
    cases hc:w==g with
    | true =>
      simp only [if_true]
      omega
    | false =>
      have:w≠g:=by simpa using hc
      simp only [Bool.false_eq_true,if_false]
      omega
  rw [es]
  walk_at "ev"
  generalize ((ns.getD 1 0 / ((4:Nat):Int) % ((2147483629:Nat):Int)).toNat + 1) * 40692 % 2147483647=n0
  obtain ⟨γ',e,number,banes,s6,rfl,h1,h2,h3⟩:=forR_n (g:=gSet 7) (b:=b1__law_book_of_5) (fun j γ=>∃ (number:Nat) (banes:List Nat) (s6:Slot),γ=[.fz (.lst (ns.map .int)),.fz (pN g),.fz (pN w),.fz (pN cut),.fz (pN shape),.fz (pN number),.ow (encN banes),s6,.un,.un,.un]∧banes.length=j∧(∀ x∈banes,x < w)∧(shape=1∨shape=2→∀ x∈banes,g≤x))
    g [.fz (.lst (ns.map .int)),.fz (pN g),.fz (pN w),.fz (pN cut),.fz (pN shape),.fz (pN n0),.ow (encN []),.un,.un,.un,.un] ⟨n0,[],.un,rfl,rfl,by simp,by simp⟩ (by
      rintro j γ hj ⟨number,banes,s6,rfl,h1,h2,h3⟩
      have fin:∀ x:Nat,x < w→(shape=1∨shape=2→g≤x)→b1__law_book_of_5 [.fz (.lst (ns.map .int)),.fz (pN g),.fz (pN w),.fz (pN cut),.fz (pN shape),.fz (pN number),.ow (encN banes),.fz (pN j),.un,.un,.un]=some (.nx [.fz (.lst (ns.map .int)),.fz (pN g),.fz (pN w),.fz (pN cut),.fz (pN shape),.fz (pN (number * 48271 % 2147483647)),.ow (encN (banes++[x])),.fz (pN j),.un,.un,.un]) →
        ∃ γ1 γ2,gSet 7 (pN j) [.fz (.lst (ns.map .int)),.fz (pN g),.fz (pN w),.fz (pN cut),.fz (pN shape),.fz (pN number),.ow (encN banes),s6,.un,.un,.un]=some γ1∧b1__law_book_of_5 γ1=some (.nx γ2)∧∃ (number:Nat) (banes:List Nat) (s6:Slot),γ2=[.fz (.lst (ns.map .int)),.fz (pN g),.fz (pN w),.fz (pN cut),.fz (pN shape),.fz (pN number),.ow (encN banes),s6,.un,.un,.un]∧banes.length=j + 1∧(∀ x∈banes,x < w)∧(shape=1∨shape=2→∀ x∈banes,g≤x):=by
        intro x hx hx2 e
        refine ⟨_,_,rfl,e,_,_,_,rfl,by simp [h1],fun y hy => ?_,fun hq y hy => ?_⟩
        · rcases List.mem_append.mp hy with z | z
          · exact h2 y z
          · rw [List.mem_singleton.mp z];exact hx
        · rcases List.mem_append.mp hy with z | z
          · exact h3 hq y z
          · rw [List.mem_singleton.mp z];exact hx2 hq
      rcases hs with rfl | rfl | ⟨hs,hlt⟩
      · refine fin (number * 48271 % 2147483647 / 5 % w) (Nat.mod_lt _ (by omega)) (by omega) ?_
        unfold b1__law_book_of_5
        walk_at "ev"
        rw [show ((0==0):Bool)=true from rfl]
        walk_at "ev"
        rw [appK_ow (by rw [encN_len];omega) rfl]
        walk_at "ev"
        simp [encN]
      · have hm:=Nat.mod_lt (j + 1 + number * 48271 % 2147483647 / 5 % 2) (show 0 < g by omega)
        refine fin ((j + 1 + number * 48271 % 2147483647 / 5 % 2) % g) (by omega) (by omega) ?_
        unfold b1__law_book_of_5
        walk_at "ev"
        rw [show ((3==0):Bool)=false from rfl]
        walk_at "ev"
        rw [show ((3==3):Bool)=true from rfl]
        walk_at "ev"
        rw [appK_ow (by rw [encN_len];omega) rfl]
        walk_at "ev"
        simp [encN]
      · have hm:=Nat.mod_lt j (show 0 < w - g by omega)
        refine fin (g + j % (w - g)) (by omega) (by omega) ?_
        unfold b1__law_book_of_5
        walk_at "ev"
        rw [show ((shape==0):Bool)=false by rcases hs with rfl | rfl <;> rfl]
        walk_at "ev"
        rw [show ((shape==3):Bool)=false by rcases hs with rfl | rfl <;> rfl]
        walk_at "ev"
        rw [appK_ow (by rw [encN_len];omega) rfl]
        walk_at "ev"
        simp [encN])
  rw [show ([]:List PV)=encN [] from rfl,e]
  walk_at "ev"
  refine xq fun _ kq=>?_
  refine x1_3 (e_shapedB (shape:=shape) hg hgw h1 h2 h3) fun rules0 er q1 q2 => ?_
  apply kq
  rw [er]
  obtain ⟨s5,hs5,hkeep⟩:∃ s5,(s5 = .ow (encN banes)∨s5 = .fz (.lst (encN banes)))∧keepE ((rules0.map Rule.enc).all flat) [4,6,1] [.fz (.lst (ns.map .int)),.fz (pN g),.fz (pN w),.fz (pN cut),.fz (pN shape),.fz (pN number),.ow (encN banes),s6,.un,.un,.un]=[.fz (.lst (ns.map .int)),.fz (pN g),.fz (pN w),.fz (pN cut),.fz (pN shape),.fz (pN number),s5,s6,.un,.un,.un]:=by
    cases (rules0.map Rule.enc).all flat with
    | true=>exact ⟨_,.inl rfl,by walk_at "ev"⟩
    | false=>exact ⟨_,.inr rfl,by walk_at "ev"⟩
  rw [Option.map_some,hkeep]
  walk_at "ev"
  have hlen:(cutP ns (some ((3:Nat):Int)) (some ((cut:Nat):Int))).length≤63:=by
    have:=cutP_len ns (some ((3:Nat):Int)) (some ((cut:Nat):Int))
    omega
  generalize cutP ns (some ((3:Nat):Int)) (some ((cut:Nat):Int))=cells at *
  obtain ⟨γ',e,rules,s8,s9,rfl,k1,k2⟩:=forL_pre (g:=gSet 9) (b:=b2__law_book_of_5) PV.int
    (fun pre γ=>∃ (rules:List Rule) (s8 s9:Slot),γ=[.fz (.lst (ns.map .int)),.fz (pN g),.fz (pN w),.fz (pN cut),.fz (pN shape),.fz (pN number),s5,s6,.ow (rules.map Rule.enc),s8,s9]∧(∀ r∈rules,RuleOk2 g w r)∧rules.length≤40)
    cells cells [] [.fz (.lst (ns.map .int)),.fz (pN g),.fz (pN w),.fz (pN cut),.fz (pN shape),.fz (pN number),s5,s6,.ow (rules0.map Rule.enc),.un,.un] rfl ⟨rules0,.un,.un,rfl,q1,by omega⟩ (by
      rintro pre c post γ hpre ⟨rules,s8,s9,rfl,k1,k2⟩
      have key:∃ (rules':List Rule) (s9':Slot),b2__law_book_of_5 [.fz (.lst (ns.map .int)),.fz (pN g),.fz (pN w),.fz (pN cut),.fz (pN shape),.fz (pN number),s5,s6,.ow (rules.map Rule.enc),.fz (.int c),s9]=some (.nx [.fz (.lst (ns.map .int)),.fz (pN g),.fz (pN w),.fz (pN cut),.fz (pN shape),.fz (pN number),s5,s6,.ow (rules'.map Rule.enc),.fz (.int c),s9'])∧(∀ r∈rules',RuleOk2 g w r)∧rules'.length≤40:=by
        unfold b2__law_book_of_5
        walk_at "ev"
        rw [andK_b (b:=decide (rules.length < 12)) (by walk_at "ev")]
        walk_at "ev"
        cases hc:(decide (g < w)&&decide (rules.length < 12)) with
        | false=>walk_at "ev";exact ⟨rules,_,rfl,k1,k2⟩
        | true =>
          rw [Bool.and_eq_true,decide_eq_true_iff,decide_eq_true_iff] at hc
          refine x1_2 (e_rule_of2 c hc.1 hw) fun r er hr => ?_
          walk_at "ev"
          rw [er]
          walk_at "ev"
          obtain ⟨nb,enb⟩:=notIn_rule r rules
          rw [enb]
          walk_at "ev"
          cases nb with
          | false=>walk_at "ev";exact ⟨rules,_,rfl,k1,k2⟩
          | true =>
            walk_at "ev"
            rw [appK_ow (by rw [List.length_map];omega) rfl]
            walk_at "ev"
            exact ⟨rules++[r],_,by rw [List.map_append];rfl,ow_rule_end2 k1 hr,by simp;omega⟩
      refine xq fun _ kq=>?_
      refine x2_3 (key) fun rules' s9' e q1 q2 => ?_
      apply kq
      exact ⟨_,_,rfl,e,rules',_,s9',rfl,q1,q2⟩)
  rw [e]
  have ok:(⟨w,banes,rules⟩:Bk).Ok := .of2 (by omega) (by omega) hw h2 (by rw [h1];exact k1) k2
  rcases hs5 with rfl | rfl
  · walk_at "ev"
    exact ⟨⟨w,banes,rules⟩,rfl,ok,h1,rfl⟩
  · walk_at "ev"
    exact ⟨⟨w,banes,rules⟩,rfl,ok,h1,rfl⟩
theorem pEq_e0:∀ xs:List Nat,pEq (.lst (encN xs)) (.lst [])=some (.bl xs.isEmpty)
  | []=>by rw [show ([]:List PV)=encN [] from rfl,pEq_ok (okv_encL _) (okv_encL _)];unfold peq encN;rfl
  | x :: xs=>by rw [show ([]:List PV)=encN [] from rfl,pEq_ok (okv_encL _) (okv_encL _)];unfold peq encN;rw [List.map_cons,List.map_nil];unfold peqL;rfl
noncomputable def spL (b:Bk) (m:Nat):List Nat:=(List.range b.banes.length).filter fun k=>m.testBit k&&(yl b (2 ^ b.banes.length - 1)).testBit (bn b k)
theorem spL_mem {b:Bk} {m k:Nat}:k∈spL b m↔m.testBit k=true∧(stk b (2 ^ b.banes.length - 1)).testBit k=true:=by
  unfold spL
  rw [List.mem_filter,List.mem_range,Bool.and_eq_true,stk_bit]
  show k < b.banes.length∧m.testBit k=true∧(yl b _).testBit (bn b k)=true↔m.testBit k=true∧k < b.banes.length∧(yl b _).testBit (bn b k)=true
  constructor
  · rintro ⟨h1,h2,h3⟩;exact ⟨h2,h1,h3⟩
  · rintro ⟨h1,h2,h3⟩;exact ⟨h2,h1,h3⟩
theorem spL_empty (b:Bk) (m:Nat):(spL b m).isEmpty=(m&&&stk b (2 ^ b.banes.length - 1)==0):=by
  rw [Bool.eq_iff_iff,and_z,List.isEmpty_iff]
  constructor
  · intro h k hk
    cases hs:(stk b (2 ^ b.banes.length - 1)).testBit k with
    | false=>rfl
    | true =>
      have:=spL_mem.mpr ⟨hk,hs⟩
      rw [h] at this;cases this
  · intro h
    cases hl:spL b m with
    | nil=>rfl
    | cons k t =>
      have:=spL_mem.mp (show k∈spL b m by rw [hl];simp)
      rw [h k this.1] at this
      cases this.2
theorem spot_test {b:Bk} {m k:Nat} (hk:k < b.banes.length) {found:List Nat} (hf:∀ w,w∈found↔(yl b (2 ^ b.banes.length - 1)).testBit w=true) :
    (bAnd (truB (bin2 pEq (bin2 pAnd (bin2 pShr (mVar 1) (mVar 0)) (mN 1)) (mN 1))) (truB (bin2 pIn (bin2 pIx (bin2 pIx (mVar 2) (mN 1)) (mVar 0)) (mVar 3)))) [.fz (pN k),.fz (pN m),.fz b.enc,.fz (.lst (encN found))]
      = some (m.testBit k&&(yl b (2 ^ b.banes.length - 1)).testBit (bn b k)):=by
  have d:∀ w,decide (w∈found)=(yl b (2 ^ b.banes.length - 1)).testBit w:=fun w=>by rw [Bool.eq_iff_iff,decide_eq_true_iff];exact hf w
  (try simp (disch:=first | assumption | omega | (simp only [encN_len,List.length_map,List.length_range,List.length_cons,List.length_nil,List.length_append];omega) | decide) only [encN_len,encN_flat,enc_ix0,enc_ix1,enc_ix2,renc_ix0,renc_ix1,flat_benc,flat_renc,testBit_one,testBit_zero',pEq_e0,EVc,List.length_cons,List.length_nil,if_true,List.map_cons,List.map_nil,List.replicate_zero,List.replicate_succ,List.cons_append,List.nil_append,List.getElem?_cons_zero,List.getElem?_cons_succ,Option.bind_some,Option.map_some,List.set_cons_zero,List.set_cons_succ,List.length_map,List.length_range,List.all_nil,List.all_cons,List.length_append])
  rw [andK_b (b:=(yl b (2 ^ b.banes.length - 1)).testBit (bn b k)) (by
    (try simp (disch:=first | assumption | omega | (simp only [encN_len,List.length_map,List.length_range,List.length_cons,List.length_nil,List.length_append];omega) | decide) only [encN_len,encN_flat,enc_ix0,enc_ix1,enc_ix2,renc_ix0,renc_ix1,flat_benc,flat_renc,testBit_one,testBit_zero',pEq_e0,EVc,List.length_cons,List.length_nil,if_true,List.map_cons,List.map_nil,List.replicate_zero,List.replicate_succ,List.cons_append,List.nil_append,List.getElem?_cons_zero,List.getElem?_cons_succ,Option.bind_some,Option.map_some,List.set_cons_zero,List.set_cons_succ,List.length_map,List.length_range,List.all_nil,List.all_cons,List.length_append])
    rw [bn_get hk]
    (try simp (disch:=first | assumption | omega | (simp only [encN_len,List.length_map,List.length_range,List.length_cons,List.length_nil,List.length_append];omega) | decide) only [encN_len,encN_flat,enc_ix0,enc_ix1,enc_ix2,renc_ix0,renc_ix1,flat_benc,flat_renc,testBit_one,testBit_zero',pEq_e0,EVc,List.length_cons,List.length_nil,if_true,List.map_cons,List.map_nil,List.replicate_zero,List.replicate_succ,List.cons_append,List.nil_append,List.getElem?_cons_zero,List.getElem?_cons_succ,Option.bind_some,Option.map_some,List.set_cons_zero,List.set_cons_succ,List.length_map,List.length_range,List.all_nil,List.all_cons,List.length_append])
    rw [d])]
theorem spot_pick {b:Bk} {m:Nat} (c:Int) (h:(spL b m).isEmpty=false):∃ k,(spL b m)[(c % ((spL b m).length:Int)).toNat]?=some k∧m.testBit k=true∧(stk b (2 ^ b.banes.length - 1)).testBit k=true∧0 < (spL b m).length:=by
  have hp:0 < (spL b m).length:=by
    cases hl:spL b m with
    | nil=>rw [hl] at h;cases h
    | cons k t=>simp
  have hlt:=imod_lt c hp
  have e:=List.getElem?_eq_getElem hlt
  obtain ⟨h1,h2⟩:=spL_mem.mp (List.getElem_mem hlt)
  exact ⟨_,e,h1,h2,hp⟩
noncomputable def wv (b:Bk) (h:Nat) (u:Una):PV:=if (aim h u&&&stk b (2 ^ b.banes.length - 1)==0)=true then .str (oth u) else .non
theorem two_full (n:Nat):2 ^ n - 1 < 2 ^ n:=by have:=Nat.two_pow_pos n;omega
theorem e_lreason {b:Bk} (ok:b.Ok) {U word:Nat} (hU:U < 2 ^ b.banes.length) (h:IsRs b word U):r__law_reason [b.enc,pN U,pN word]=some (.bl true):=by
  have h8:=ok.g8
  refine xq fun _ kq=>?_
  refine x1_3 (e_yields ok hU) fun f1 e1 h1 l1 => ?_
  apply kq
  unfold r__law_reason d__law_reason
  (try simp (disch:=first | assumption | omega | (simp only [encN_len,List.length_map,List.length_range,List.length_cons,List.length_nil,List.length_append];omega) | decide) only [encN_len,encN_flat,enc_ix0,enc_ix1,enc_ix2,renc_ix0,renc_ix1,flat_benc,flat_renc,testBit_one,testBit_zero',pEq_e0,pInv_n,pAnd_inv,isN_l,isN_b,e_cell,EVc,List.length_cons,List.length_nil,if_true,List.map_cons,List.map_nil,List.replicate_zero,List.replicate_succ,List.cons_append,List.nil_append,List.getElem?_cons_zero,List.getElem?_cons_succ,Option.bind_some,Option.map_some,List.set_cons_zero,List.set_cons_succ,List.length_map,List.length_range,List.all_nil,List.all_cons,List.length_append])
  rw [e1]
  (try simp (disch:=first | assumption | omega | (simp only [encN_len,List.length_map,List.length_range,List.length_cons,List.length_nil,List.length_append];omega) | decide) only [encN_len,encN_flat,enc_ix0,enc_ix1,enc_ix2,renc_ix0,renc_ix1,flat_benc,flat_renc,testBit_one,testBit_zero',pEq_e0,pInv_n,pAnd_inv,isN_l,isN_b,e_cell,EVc,List.length_cons,List.length_nil,if_true,List.map_cons,List.map_nil,List.replicate_zero,List.replicate_succ,List.cons_append,List.nil_append,List.getElem?_cons_zero,List.getElem?_cons_succ,Option.bind_some,Option.map_some,List.set_cons_zero,List.set_cons_succ,List.length_map,List.length_range,List.all_nil,List.all_cons,List.length_append])
  rw [decide_eq_true ((h1 word).mpr h.1)]
  (try simp (disch:=first | assumption | omega | (simp only [encN_len,List.length_map,List.length_range,List.length_cons,List.length_nil,List.length_append];omega) | decide) only [encN_len,encN_flat,enc_ix0,enc_ix1,enc_ix2,renc_ix0,renc_ix1,flat_benc,flat_renc,testBit_one,testBit_zero',pEq_e0,pInv_n,pAnd_inv,isN_l,isN_b,e_cell,EVc,List.length_cons,List.length_nil,if_true,List.map_cons,List.map_nil,List.replicate_zero,List.replicate_succ,List.cons_append,List.nil_append,List.getElem?_cons_zero,List.getElem?_cons_succ,Option.bind_some,Option.map_some,List.set_cons_zero,List.set_cons_succ,List.length_map,List.length_range,List.all_nil,List.all_cons,List.length_append])
  obtain ⟨γ',e,s3,rfl⟩:=forR_n (g:=gSet 3) (b:=b1__law_reason) (fun j γ=>∃ s3,γ=[.fz b.enc,.fz (pN U),.fz (pN word),s3])
    b.banes.length [.fz b.enc,.fz (pN U),.fz (pN word),.un] ⟨.un,rfl⟩ (by
      rintro j γ hj ⟨s3,rfl⟩
      refine ⟨_,_,rfl,?_,.fz (pN j),rfl⟩
      unfold b1__law_reason
      (try simp (disch:=first | assumption | omega | (simp only [encN_len,List.length_map,List.length_range,List.length_cons,List.length_nil,List.length_append];omega) | decide) only [encN_len,encN_flat,enc_ix0,enc_ix1,enc_ix2,renc_ix0,renc_ix1,flat_benc,flat_renc,testBit_one,testBit_zero',pEq_e0,pInv_n,pAnd_inv,isN_l,isN_b,e_cell,EVc,List.length_cons,List.length_nil,if_true,List.map_cons,List.map_nil,List.replicate_zero,List.replicate_succ,List.cons_append,List.nil_append,List.getElem?_cons_zero,List.getElem?_cons_succ,Option.bind_some,Option.map_some,List.set_cons_zero,List.set_cons_succ,List.length_map,List.length_range,List.all_nil,List.all_cons,List.length_append])
      cases hb:U.testBit j with
      | false=>(try simp (disch:=first | assumption | omega | (simp only [encN_len,List.length_map,List.length_range,List.length_cons,List.length_nil,List.length_append];omega) | decide) only [encN_len,encN_flat,enc_ix0,enc_ix1,enc_ix2,renc_ix0,renc_ix1,flat_benc,flat_renc,testBit_one,testBit_zero',pEq_e0,pInv_n,pAnd_inv,isN_l,isN_b,e_cell,EVc,List.length_cons,List.length_nil,if_true,List.map_cons,List.map_nil,List.replicate_zero,List.replicate_succ,List.cons_append,List.nil_append,List.getElem?_cons_zero,List.getElem?_cons_succ,Option.bind_some,Option.map_some,List.set_cons_zero,List.set_cons_succ,List.length_map,List.length_range,List.all_nil,List.all_cons,List.length_append])
      | true =>
        have hle:2 ^ j≤U:=Nat.ge_two_pow_of_testBit hb
        refine xq fun _ kq=>?_
        refine x1_3 (e_yields ok (held:=U - 2 ^ j) (Nat.lt_of_le_of_lt (Nat.sub_le _ _) hU)) fun f2 e2 h2 l2 => ?_
        apply kq
        (try simp (disch:=first | assumption | omega | (simp only [encN_len,List.length_map,List.length_range,List.length_cons,List.length_nil,List.length_append];omega) | decide) only [encN_len,encN_flat,enc_ix0,enc_ix1,enc_ix2,renc_ix0,renc_ix1,flat_benc,flat_renc,testBit_one,testBit_zero',pEq_e0,pInv_n,pAnd_inv,isN_l,isN_b,e_cell,EVc,List.length_cons,List.length_nil,if_true,List.map_cons,List.map_nil,List.replicate_zero,List.replicate_succ,List.cons_append,List.nil_append,List.getElem?_cons_zero,List.getElem?_cons_succ,Option.bind_some,Option.map_some,List.set_cons_zero,List.set_cons_succ,List.length_map,List.length_range,List.all_nil,List.all_cons,List.length_append])
        rw [e2]
        (try simp (disch:=first | assumption | omega | (simp only [encN_len,List.length_map,List.length_range,List.length_cons,List.length_nil,List.length_append];omega) | decide) only [encN_len,encN_flat,enc_ix0,enc_ix1,enc_ix2,renc_ix0,renc_ix1,flat_benc,flat_renc,testBit_one,testBit_zero',pEq_e0,pInv_n,pAnd_inv,isN_l,isN_b,e_cell,EVc,List.length_cons,List.length_nil,if_true,List.map_cons,List.map_nil,List.replicate_zero,List.replicate_succ,List.cons_append,List.nil_append,List.getElem?_cons_zero,List.getElem?_cons_succ,Option.bind_some,Option.map_some,List.set_cons_zero,List.set_cons_succ,List.length_map,List.length_range,List.all_nil,List.all_cons,List.length_append])
        rw [decide_eq_false (by rw [h2,← dif_pow hb,h.2 j hb];simp)]
        (try simp (disch:=first | assumption | omega | (simp only [encN_len,List.length_map,List.length_range,List.length_cons,List.length_nil,List.length_append];omega) | decide) only [encN_len,encN_flat,enc_ix0,enc_ix1,enc_ix2,renc_ix0,renc_ix1,flat_benc,flat_renc,testBit_one,testBit_zero',pEq_e0,pInv_n,pAnd_inv,isN_l,isN_b,e_cell,EVc,List.length_cons,List.length_nil,if_true,List.map_cons,List.map_nil,List.replicate_zero,List.replicate_succ,List.cons_append,List.nil_append,List.getElem?_cons_zero,List.getElem?_cons_succ,Option.bind_some,Option.map_some,List.set_cons_zero,List.set_cons_succ,List.length_map,List.length_range,List.all_nil,List.all_cons,List.length_append]))
  rw [e]
  (try simp (disch:=first | assumption | omega | (simp only [encN_len,List.length_map,List.length_range,List.length_cons,List.length_nil,List.length_append];omega) | decide) only [encN_len,encN_flat,enc_ix0,enc_ix1,enc_ix2,renc_ix0,renc_ix1,flat_benc,flat_renc,testBit_one,testBit_zero',pEq_e0,pInv_n,pAnd_inv,isN_l,isN_b,e_cell,EVc,List.length_cons,List.length_nil,if_true,List.map_cons,List.map_nil,List.replicate_zero,List.replicate_succ,List.cons_append,List.nil_append,List.getElem?_cons_zero,List.getElem?_cons_succ,Option.bind_some,Option.map_some,List.set_cons_zero,List.set_cons_succ,List.length_map,List.length_range,List.all_nil,List.all_cons,List.length_append])
theorem win_str (C:Addr) {b:Bk} (ok:b.Ok) {h:Nat} {u:Una} (c:Addr) (hz:(aim h u&&&stk b (2 ^ b.banes.length - 1)==0)=true):r_Talk_winner C [tkV C b h u c]=some (.str (oth u)):=by
  rw [e_winner C ok,hz];rfl
noncomputable def rkN (b:Bk) (n g:Nat):Nat:=((List.range n).find? fun j=>(it b j).testBit g).getD 0
theorem it_zero (b:Bk) (g:Nat):(it b 0).testBit g=false:=by unfold it;simp
theorem rk_find {b:Bk} {n g j:Nat} (h:(List.range n).find? (fun j=>(it b j).testBit g)=some j):0 < j∧j < n∧(it b j).testBit g=true∧rkN b n g=j:=by
  have h1:=List.find?_some h
  have h2:=List.mem_range.mp (List.mem_of_find?_eq_some h)
  refine ⟨?_,h2,h1,by unfold rkN;rw [h];rfl⟩
  rcases Nat.eq_zero_or_pos j with rfl | hj
  · rw [it_zero] at h1;cases h1
  · exact hj
theorem rk_0 {b:Bk} {n g:Nat}:rkN b n g=0↔(List.range n).find? (fun j=>(it b j).testBit g)=none:=by
  constructor
  · intro h
    cases hf:(List.range n).find? (fun j=>(it b j).testBit g) with
    | none=>rfl
    | some j=>have:=rk_find hf;omega
  · intro h;unfold rkN;rw [h];rfl
theorem rk_pos {b:Bk} {n g:Nat} (h:rkN b n g≠0):(List.range n).find? (fun j=>(it b j).testBit g)=some (rkN b n g)∧rkN b n g < n∧(it b (rkN b n g)).testBit g=true:=by
  cases hf:(List.range n).find? (fun j=>(it b j).testBit g) with
  | none=>exact absurd (rk_0.mpr hf) h
  | some j =>
    refine xq fun _ kq=>?_
    refine x0_4 (rk_find hf) fun h1 h2 h3 h4 => ?_
    apply kq
    rw [h4]
    exact ⟨rfl,h2,h3⟩
theorem rk_le {b:Bk} {n g j:Nat} (hj:j < n) (h:(it b j).testBit g=true):rkN b n g≠0∧rkN b n g≤j:=by
  cases hf:(List.range n).find? (fun j=>(it b j).testBit g) with
  | none =>
    have:=List.find?_eq_none.mp hf j (List.mem_range.mpr hj)
    simp [h] at this
  | some r =>
    refine xq fun _ kq=>?_
    refine x0_4 (rk_find hf) fun h1 h2 h3 h4 => ?_
    apply kq
    refine ⟨by omega,?_⟩
    rw [h4]
    rcases Nat.lt_or_ge j r with hlt | hge
    · exfalso
      obtain ⟨_,k,hk,hk2,hk3⟩:=List.find?_eq_some_iff_getElem.mp hf
      rw [List.getElem_range] at hk2
      subst hk2
      have:=hk3 j hlt
      rw [List.getElem_range,h] at this
      cases this
    · exact hge
theorem rkV_of {b:Bk} {n g:Nat}:rkV b n g=if rkN b n g=0 then .non else pN (rkN b n g):=by
  cases hf:(List.range n).find? (fun j=>(it b j).testBit g) with
  | none =>
    rw [if_pos (rk_0.mpr hf)]
    unfold rkV
    rw [hf]
  | some r =>
    refine xq fun _ kq=>?_
    refine x0_4 (rk_find hf) fun h1 h2 h3 h4 => ?_
    apply kq
    rw [h4,if_neg (by omega)]
    unfold rkV
    rw [hf]
theorem rkN_step (b:Bk) (i g:Nat):rkN b (i + 2) g=if ((rkN b (i + 1) g==0)&&(it b (i + 1)).testBit g)=true then i + 1 else rkN b (i + 1) g:=by
  cases hf:(List.range (i + 1)).find? (fun j=>(it b j).testBit g) with
  | some j =>
    refine xq fun _ kq=>?_
    refine x0_4 (rk_find hf) fun h1 h2 h3 h4 => ?_
    apply kq
    rw [h4,show (j==0)=false by rw [beq_eq_false_iff_ne];omega,Bool.false_and,if_neg (by decide)]
    unfold rkN
    rw [List.range_succ (n:=i + 1),List.find?_append,hf]
    rfl
  | none =>
    rw [rk_0.mpr hf,show ((0:Nat)==0)=true from rfl,Bool.true_and]
    unfold rkN
    rw [List.range_succ (n:=i + 1),List.find?_append,hf,Option.none_or]
    cases hb:(it b (i + 1)).testBit g with
    | true=>rw [List.find?_cons_of_pos (p:=fun j=>(it b j).testBit g) hb];rfl
    | false=>rw [List.find?_cons_of_neg (p:=fun j=>(it b j).testBit g) (by rw [hb];simp)];rfl
noncomputable def rkL (b:Bk) (n:Nat):List Nat:=(List.range b.banes.length).map (rkN b n)
theorem rkL_len (b:Bk) (n:Nat):(rkL b n).length=b.banes.length:=by unfold rkL;simp
theorem rkL_get {b:Bk} {n k:Nat} (h:k < b.banes.length):(rkL b n)[k]?=some (rkN b n k):=by
  unfold rkL;rw [List.getElem?_map,List.getElem?_range h];rfl
noncomputable def mxN (b:Bk) (i j:Nat):List Nat:=(List.range b.banes.length).map fun k=>if k < j then rkN b (i + 2) k else rkN b (i + 1) k
theorem mxN_len (b:Bk) (i j:Nat):(mxN b i j).length=b.banes.length:=by unfold mxN;simp
theorem mxN_0 (b:Bk) (i:Nat):mxN b i 0=rkL b (i + 1):=by
  unfold mxN rkL
  exact List.map_congr_left fun k _=>by rw [if_neg (by omega)]
theorem mxN_g (b:Bk) (i:Nat):mxN b i b.banes.length=rkL b (i + 2):=by
  unfold mxN rkL
  exact List.map_congr_left fun k hk=>by rw [if_pos (List.mem_range.mp hk)]
theorem mxN_get {b:Bk} {i j:Nat} (h:j < b.banes.length):(mxN b i j)[j]?=some (rkN b (i + 1) j):=by
  unfold mxN
  rw [List.getElem?_map,List.getElem?_range h,Option.map_some,if_neg (by omega)]
theorem mxN_set {b:Bk} {i j:Nat} (v:Nat) (h:j < b.banes.length) (hv:v=rkN b (i + 2) j):(mxN b i j).set j v=mxN b i (j + 1):=by
  refine List.ext_getElem? fun k => ?_
  by_cases hk:k < b.banes.length
  · by_cases hkj:j=k
    · subst hkj
      rw [List.getElem?_set_self (by rw [mxN_len];exact hk),hv]
      unfold mxN
      rw [List.getElem?_map,List.getElem?_range hk,Option.map_some,if_pos (by omega)]
    · rw [List.getElem?_set_ne hkj]
      unfold mxN
      rw [List.getElem?_map,List.getElem?_map,List.getElem?_range hk,Option.map_some,Option.map_some]
      by_cases h1:k < j
      · rw [if_pos h1,if_pos (by omega)]
      · rw [if_neg h1,if_neg (by omega)]
  · rw [List.getElem?_eq_none (by rw [List.length_set,mxN_len];omega),List.getElem?_eq_none (by rw [mxN_len];omega)]
theorem mxN_same {b:Bk} {i j:Nat} (h:j < b.banes.length) (hv:rkN b (i + 1) j=rkN b (i + 2) j):mxN b i j=mxN b i (j + 1):=by
  rw [← mxN_set (rkN b (i + 1) j) h hv]
  refine (List.ext_getElem? fun k => ?_)
  by_cases hkj:j=k
  · subst hkj
    rw [List.getElem?_set_self (by rw [mxN_len];exact h),mxN_get h]
  · rw [List.getElem?_set_ne hkj]
theorem encN_set (xs:List Nat) (j v:Nat):(encN xs).set j (pN v)=encN (xs.set j v):=by unfold encN;rw [List.map_set]
local macro_rules | `(tactic| walk_at "ev") => `(tactic| try simp (disch:=first | assumption | omega | (simp only [encN_len,mxN_len,rkL_len,encN_len,List.length_map,List.length_range,List.length_cons,List.length_nil,List.length_append];omega) | decide) only [encN_len,encN_flat,enc_ix0,enc_ix1,enc_ix2,renc_ix0,renc_ix1,flat_benc,flat_renc,testBit_one,testBit_zero',pEq_e0,pInv_n,pAnd_inv,isN_l,isN_b,e_cell,mxN_len,rkL_len,EVc,List.length_cons,List.length_nil,if_true,List.map_cons,List.map_nil,List.replicate_zero,List.replicate_succ,List.cons_append,List.nil_append,List.getElem?_cons_zero,List.getElem?_cons_succ,Option.bind_some,Option.map_some,List.set_cons_zero,List.set_cons_succ,List.length_map,List.length_range,List.all_nil,List.all_cons,List.length_append])
theorem ranks_turn {b:Bk} (ok:b.Ok) {i:Nat} {s5:Slot} :
    ∃ s5',b2__law_ranks [.fz b.enc,.ow (encN (rkL b (i + 1))),.fz (pN (it b i)),.fz (pN (it b (i + 1))),.fz (pN (i + 1)),s5] =
      some (.nx [.fz b.enc,.ow (encN (rkL b (i + 2))),.fz (pN (it b (i + 1))),.fz (pN (it b (i + 2))),.fz (pN (i + 2)),s5']):=by
  have h8:=ok.g8
  unfold b2__law_ranks
  walk_at "ev"
  obtain ⟨γ',e,s5',rfl⟩:=forR_n (g:=gSet 5) (b:=b1__law_ranks) (fun j γ=>∃ s5,γ=[.fz b.enc,.ow (encN (mxN b i j)),.fz (pN (it b (i + 1))),.fz (pN (it b (i + 1))),.fz (pN (i + 1)),s5])
    b.banes.length [.fz b.enc,.ow (encN (mxN b i 0)),.fz (pN (it b (i + 1))),.fz (pN (it b (i + 1))),.fz (pN (i + 1)),s5] ⟨s5,rfl⟩ (by
      rintro j γ hj ⟨s5,rfl⟩
      refine ⟨_,_,rfl,?_,.fz (pN j),rfl⟩
      have hst:=rkN_step b i j
      unfold b1__law_ranks
      walk_at "ev"
      rw [mxN_get hj]
      walk_at "ev"
      rw [andK_b (b:=(it b (i + 1)).testBit j) (by walk_at "ev")]
      walk_at "ev"
      cases hc:((rkN b (i + 1) j==0)&&(it b (i + 1)).testBit j) with
      | true =>
        rw [hc,if_pos rfl] at hst
        walk_at "ev"
        rw [sixK_n (by rw [encN_len,mxN_len];exact hj) rfl]
        walk_at "ev"
        rw [encN_set,mxN_set _ hj hst.symm]
      | false =>
        rw [hc,if_neg (by simp)] at hst
        walk_at "ev"
        rw [mxN_same hj hst.symm])
  rw [mxN_0,mxN_g] at e
  rw [e]
  walk_at "ev"
  rw [e_defends ok (it_lt b (i + 1))]
  walk_at "ev"
  exact ⟨s5',rfl⟩
theorem e_ranks {b:Bk} (ok:b.Ok):∃ m,r__law_ranks [b.enc]=some (.lst (encN (rkL b (m + 1))))∧Last b m:=by
  have h8:=ok.g8
  unfold r__law_ranks d__law_ranks
  walk_at "ev"
  rw [show encN b.banes=b.banes.map pN from rfl,compL_flt pN (fun _=>true) (fun _=>pN 0) b.banes fun g hg=>⟨_,rfl,rfl,fun _=>rfl⟩]
  rw [show (b.banes.filter fun _=>true).map (fun _=>pN 0)=encN (rkL b 1) by
    rw [List.filter_eq_self.mpr (fun _ _=>rfl)]
    unfold rkL encN
    rw [List.map_map]
    refine List.ext_getElem (by simp) fun k h1 h2 => ?_
    rw [List.getElem_map,List.getElem_map,List.getElem_range]
    show pN 0=pN (rkN b 1 k)
    congr 1
    symm
    refine rk_0.mpr (List.find?_eq_none.mpr fun j hj => ?_)
    have:=List.mem_range.mp hj
    rw [show j=0 by omega,it_zero]
    simp]
  walk_at "ev"
  rw [e_defends ok (Nat.two_pow_pos _)]
  walk_at "ev"
  obtain ⟨γ',e,m,s5,rfl,h1,h2⟩:=whileL_by (t:=truB (bin2 pNe (mVar 3) (mVar 2))) (b:=b2__law_ranks)
    (Post:=fun γ=>∃ i s5,γ=[.fz b.enc,.ow (encN (rkL b (i + 1))),.fz (pN (it b i)),.fz (pN (it b (i + 1))),.fz (pN (i + 1)),s5]∧it b (i + 1)=it b i∧(∀ j,j < i→it b (j + 1)≠it b j))
    (fun n γ=>∃ i s5,γ=[.fz b.enc,.ow (encN (rkL b (i + 1))),.fz (pN (it b i)),.fz (pN (it b (i + 1))),.fz (pN (i + 1)),s5]∧(∀ j,j < i→it b (j + 1)≠it b j)∧n=lft b i)
    (by
      rintro n γ ⟨i,s5,rfl,q1,rfl⟩
      have ht:(truB (bin2 pNe (mVar 3) (mVar 2))) [.fz b.enc,.ow (encN (rkL b (i + 1))),.fz (pN (it b i)),.fz (pN (it b (i + 1))),.fz (pN (i + 1)),s5]=some (!(it b (i + 1)==it b i)):=by walk_at "ev"
      by_cases he:it b (i + 1)=it b i
      · exact .inl ⟨by rw [ht,show (it b (i + 1)==it b i)=true by rw [beq_iff_eq];exact he];rfl,i,s5,rfl,he,q1⟩
      · obtain ⟨s5',e⟩:=ranks_turn ok (i:=i) (s5:=s5)
        refine .inr ⟨by rw [ht,show (it b (i + 1)==it b i)=false by rw [beq_eq_false_iff_ne];exact he];rfl,_,lft b (i + 1),e,lft_lt ok he,i + 1,s5',rfl,fun j hj => ?_,rfl⟩
        by_cases hj2:j=i
        · subst hj2;exact he
        · exact q1 j (by omega))
    1000 (lft b 0) [.fz b.enc,.ow (encN (rkL b (0 + 1))),.fz (pN (it b 0)),.fz (pN (it b (0 + 1))),.fz (pN (0 + 1)),.un] ⟨0,.un,rfl,by simp,rfl⟩ (by
      have:=List.length_filter_le (fun g => !(it b 0).testBit g) (List.range b.banes.length)
      rw [List.length_range] at this
      unfold lft
      omega)
  unfold sWhile
  rw [show ([Slot.fz b.enc,Slot.ow (encN (rkL b 1)),Slot.fz (pN 0),Slot.fz (pN (dfd b 0)),Slot.fz (pN 1),Slot.un]:PEnv)=[.fz b.enc,.ow (encN (rkL b (0 + 1))),.fz (pN (it b 0)),.fz (pN (it b (0 + 1))),.fz (pN (0 + 1)),.un] from rfl,e]
  walk_at "ev"
  exact ⟨m,rfl,h1,h2⟩
theorem it_monos {b:Bk} (ok:b.Ok) {i j:Nat} (h:i≤j) {g:Nat} (hg:(it b i).testBit g=true):(it b j).testBit g=true:=by
  induction h with
  | refl=>exact hg
  | step _ ih=>exact it_mono ok _ ih
theorem e_reply_far {b:Bk} (ok:b.Ok) {g s:Nat} (h:(stk b s).testBit g=false):r_reply [b.enc,pN g,pN s]=some .non:=by
  have h8:=ok.g8
  unfold r_reply d_reply
  walk_at "ev"
  rw [e_struck ok]
  walk_at "ev"
  rw [e_places8 (show b.banes.length≤60 by omega) (stk_lt b s)]
  walk_at "ev"
  rw [decide_eq_false (show ¬ g∈plN (stk b s) by rw [mem_plN,h];simp)]
  walk_at "ev"
theorem e_reply_free {b:Bk} (ok:b.Ok) {g s m:Nat} (hg:g≤1000) (hl:Last b m) (h:rkN b (m + 1) g=0):r_reply [b.enc,pN g,pN s]=some .non:=by
  have h8:=ok.g8
  cases hs:(stk b s).testBit g with
  | false=>exact e_reply_far ok hs
  | true =>
    refine xq fun _ kq=>?_
    refine x1_3 (e_rounds ok) fun m' e hl' hm => ?_
    apply kq
    have:=hl.unique hl'
    subst this
    unfold r_reply d_reply
    walk_at "ev"
    rw [e_struck ok]
    walk_at "ev"
    rw [e_places8 (show b.banes.length≤60 by omega) (stk_lt b s)]
    walk_at "ev"
    rw [decide_eq_true (show g∈plN (stk b s) by rw [mem_plN,hs])]
    walk_at "ev"
    rw [e]
    walk_at "ev"
    rw [e_rank_in hg hm,rkV_of,if_pos h]
    walk_at "ev"
theorem itL_get {b:Bk} {m r:Nat} (h:r≤m):(itL b m)[r]?=some (it b r):=by
  unfold itL;rw [List.getElem?_map,List.getElem?_range (by omega)];rfl
theorem e_reply {b:Bk} (ok:b.Ok) {g s m:Nat} (hg:g≤1000) (hS:s < 2 ^ b.banes.length) (hl:Last b m) (h:rkN b (m + 1) g≠0) (hs:(stk b s).testBit g=true) :
    ∃ k U,r_reply [b.enc,pN g,pN s]=some (.tup [pN k,pN U])∧s.testBit k=true∧(∀ j,U.testBit j=true→(it b (rkN b (m + 1) g - 1)).testBit j=true)∧IsRs b (bn b k) U:=by
  have h8:=ok.g8
  refine xq fun _ kq=>?_
  refine x1_3 (e_rounds ok) fun m' e hl' hm => ?_
  apply kq
  have:=hl.unique hl'
  subst this
  refine xq fun _ kq=>?_
  refine x0_3 (rk_pos h) fun r1 r2 r3 => ?_
  have hr:∃ r,rkN b (m + 1) g=r + 1:=⟨rkN b (m + 1) g - 1,by omega⟩
  obtain ⟨r,hr⟩:=hr
  apply kq
  have hne:s&&&stk b (it b r)≠0:=by
    rw [hr] at r3
    have:=((dfd_iff ok).mp (show (dfd b (it b r)).testBit g=true from r3)).2 s hS hs
    simpa using this
  obtain ⟨k,U,e2,h1,h2,h3⟩:=e_first_strike ok (gs:=s&&&stk b (it b r)) (within:=it b r) (Nat.lt_of_le_of_lt Nat.and_le_left hS) hne (it_lt b r) fun k hk=>by
    rw [Nat.testBit_and,Bool.and_eq_true] at hk
    exact (stk_bit.mp hk.2).2
  rw [Nat.testBit_and,Bool.and_eq_true] at h1
  refine ⟨k,U,?_,h1.1,by rw [hr];exact h2,h3⟩
  unfold r_reply d_reply
  walk_at "ev"
  rw [e_struck ok]
  walk_at "ev"
  rw [e_places8 (show b.banes.length≤60 by omega) (stk_lt b s)]
  walk_at "ev"
  rw [decide_eq_true (show g∈plN (stk b s) by rw [mem_plN,hs])]
  walk_at "ev"
  rw [e]
  walk_at "ev"
  rw [e_rank_in hg hm,rkV_of,if_neg h,hr]
  walk_at "ev"
  rw [Nat.add_sub_cancel,itL_get (show r≤m by omega)]
  walk_at "ev"
  rw [e_struck ok]
  walk_at "ev"
  rw [e2]
  walk_at "ev"
theorem e_good2 {b:Bk} (ok:b.Ok) {m g s k U:Nat} (hg:g < b.banes.length) (hS:s < 2 ^ b.banes.length) (hU:∀ j,U.testBit j=true→(it b (rkN b (m + 1) g - 1)).testBit j=true) (h0:rkN b (m + 1) g≠0) (h1:s.testBit k=true) (h4:IsRs b (bn b k) U) :
    r__law_good_2 [b.enc,.lst (encN (rkL b (m + 1))),pN g,pN s,.tup [pN k,pN U]]=some (.bl true):=by
  have h8:=ok.g8
  have hk:=bit_lt hS h1
  have hUl:=sub_lt (it_lt b _) hU
  refine x0_3 (rk_pos h0) fun r1 r2 r3 => ?_
  unfold r__law_good_2 d__law_good_2
  walk_at "ev"
  rw [show ((0 + 1 + 1==2):Bool)=true from rfl]
  walk_at "ev"
  obtain ⟨γ',e,s5,rfl⟩:=forL_pre (g:=gSet 5) (b:=b1__law_good_2) pN (fun pre γ=>∃ s5,γ=[.fz b.enc,.fz (.lst (encN (rkL b (m + 1)))),.fz (pN g),.fz (pN s),.fz (.tup [pN k,pN U]),s5,.un]) [k,U] [k,U] [] [.fz b.enc,.fz (.lst (encN (rkL b (m + 1)))),.fz (pN g),.fz (pN s),.fz (.tup [pN k,pN U]),.un,.un] rfl ⟨.un,rfl⟩ (by
    rintro pre x post γ hpre ⟨s5,rfl⟩
    refine ⟨_,_,rfl,?_,.fz (pN x),rfl⟩
    unfold b1__law_good_2
    walk_at "ev")
  rw [show forL (gSet 5) b1__law_good_2 [pN k,pN U]=forL (gSet 5) b1__law_good_2 ([k,U].map pN) from rfl,e]
  walk_at "ev"
  rw [decide_eq_false (show ¬ b.banes.length≤k by omega)]
  walk_at "ev"
  rw [h1]
  walk_at "ev"
  rw [decide_eq_false (show ¬ 2 ^ b.banes.length≤U by omega)]
  walk_at "ev"
  obtain ⟨γ',e,s6,rfl⟩:=forR_n (g:=gSet 6) (b:=b2__law_good_2) (fun j γ=>∃ s6,γ=[.fz b.enc,.fz (.lst (encN (rkL b (m + 1)))),.fz (pN g),.fz (pN s),.fz (.tup [pN k,pN U]),s5,s6])
    b.banes.length [.fz b.enc,.fz (.lst (encN (rkL b (m + 1)))),.fz (pN g),.fz (pN s),.fz (.tup [pN k,pN U]),s5,.un] ⟨.un,rfl⟩ (by
      rintro j γ hj ⟨s6,rfl⟩
      refine ⟨_,_,rfl,?_,.fz (pN j),rfl⟩
      unfold b2__law_good_2
      walk_at "ev"
      cases hb:U.testBit j with
      | false=>walk_at "ev"
      | true =>
        obtain ⟨q1,q2⟩:=rk_le (b:=b) (n:=m + 1) (show rkN b (m + 1) g - 1 < m + 1 by omega) (hU j hb)
        walk_at "ev"
        rw [rkL_get hj]
        walk_at "ev"
        rw [show (rkN b (m + 1) j==0)=false by rw [beq_eq_false_iff_ne];exact q1]
        walk_at "ev"
        rw [rkL_get hj,rkL_get hg]
        walk_at "ev"
        rw [decide_eq_false (show ¬ rkN b (m + 1) g≤rkN b (m + 1) j by omega)]
        walk_at "ev")
  rw [e]
  walk_at "ev"
  rw [bn_get hk]
  walk_at "ev"
  rw [e_lreason ok hUl h4]
  walk_at "ev"
end DH

set_option Elab.async false
set_option linter.all false
set_option maxRecDepth 100000
noncomputable section
namespace K34
open PySem PySem.Spec PyProof.Rows L2 L2.PM DH
theorem e_maxN (x:Nat) (xs:List Nat):∃ T,pMaxL [.lst (encN (x :: xs))]=some (pN T)∧T∈x :: xs∧∀ a∈x :: xs,a≤T:=by
  have e:encN (x :: xs)=((x :: xs).map fun (k:Nat)=>(k:Int)).map PV.int:=by unfold encN;rw [List.map_map];rfl
  refine xq fun _ kq=>?_
  obtain ⟨M,eM⟩:∃ M,maxI ((x :: xs).map fun (k:Nat)=>(k:Int))=some M:=⟨_,rfl⟩
  obtain ⟨h1,h2⟩:=maxI_spec eM
  refine x1_2 (List.mem_map.mp h1) fun T hT zq1 => ?_
  obtain rfl:=zq1
  apply kq
  refine ⟨T,?_,hT,fun a ha => ?_⟩
  · rw [e]
    show (ints? _).bind (fun ns=>(maxI ns).map PV.int)=_
    rw [ints?_map,Option.bind_some,eM]
    rfl
  · have:=h2 (a:Int) (List.mem_map.mpr ⟨a,ha,rfl⟩)
    omega
local macro_rules | `(tactic| walk_at "ev") => `(tactic| try simp (disch:=first | assumption | omega | (simp only [encN_len,rkL_len,encN_len,List.length_map,List.length_range,List.length_cons,List.length_nil,List.length_append];omega) | decide) only [encN_len,encN_flat,enc_ix0,enc_ix1,enc_ix2,renc_ix0,renc_ix1,flat_benc,flat_renc,testBit_one,testBit_zero',pEq_e0,pInv_n,pAnd_inv,isN_l,isN_b,e_cell,rkL_len,rd_tk,ev_mFld,ev_mMeth,mth_turn,mth_now,mth_aims,mth_win,mth_can,pAdd_ni,pAdd_in,trn_ned,EVc,List.length_cons,List.length_nil,if_true,List.map_cons,List.map_nil,List.replicate_zero,List.replicate_succ,List.cons_append,List.nil_append,List.getElem?_cons_zero,List.getElem?_cons_succ,Option.bind_some,Option.map_some,List.set_cons_zero,List.set_cons_succ,List.length_map,List.length_range,List.all_nil,List.all_cons,List.length_append])
theorem e_tops {b:Bk} (ok:b.Ok) (m held:Nat):∃ T,r__law_tops [.lst (encN (rkL b (m + 1))),pN held]=some (pN T)∧T≤m∧∀ g,g < b.banes.length→held.testBit g=true→rkN b (m + 1) g≤T:=by
  have h8:=ok.g8
  refine xq fun _ kq=>?_
  refine x1_3 (e_maxN 0 (((List.range b.banes.length).filter fun k=>held.testBit k).map (rkN b (m + 1)))) fun T e h1 h2 => ?_
  apply kq
  refine ⟨T,?_,?_,fun g hg hb=>h2 _ (List.mem_cons_of_mem _ (List.mem_map.mpr ⟨g,List.mem_filter.mpr ⟨List.mem_range.mpr hg,hb⟩,rfl⟩))⟩
  · unfold r__law_tops d__law_tops
    walk_at "ev"
    rw [show encN (List.range b.banes.length)=(List.range b.banes.length).map pN from rfl]
    rw [compL_flt pN (fun k=>held.testBit k) (fun k=>pN (rkN b (m + 1) k)) (List.range b.banes.length) fun k hk=>⟨_,rfl,by walk_at "ev",fun _=>by
      walk_at "ev"
      rw [rkL_get (List.mem_range.mp hk)]
      walk_at "ev"⟩]
    have hl:((List.range b.banes.length).filter fun k=>held.testBit k).length≤8:=by
      have:=List.length_filter_le (fun k=>held.testBit k) (List.range b.banes.length)
      rw [List.length_range] at this
      omega
    walk_at "ev"
    rw [show pN 0 :: (((List.range b.banes.length).filter fun k=>held.testBit k).map fun k=>pN (rkN b (m + 1) k))=encN (0 :: (((List.range b.banes.length).filter fun k=>held.testBit k).map (rkN b (m + 1)))) by unfold encN;rw [List.map_cons,List.map_map];rfl,e]
    walk_at "ev"
  · rcases List.mem_cons.mp h1 with rfl | h
    · omega
    · refine x1_2 (List.mem_map.mp h) fun k _ zq1 => ?_
      obtain rfl:=zq1
      by_cases h0:rkN b (m + 1) k=0
      · omega
      · have:=(rk_pos h0).2.1
        omega
theorem e_struck_by {b:Bk} (ok:b.Ok) {g:Nat} (c:Int) (h:(stk b (2 ^ b.banes.length - 1)).testBit g=true):∃ s,r__law_struck_by [b.enc,pN g,.int c]=some (pN s)∧s < 2 ^ b.banes.length∧(stk b s).testBit g=true:=by
  have h8:=ok.g8
  have hg:=(stk_bit.mp h).1
  have hp:=Nat.two_pow_pos b.banes.length
  have hd:=imod_lt c hp
  unfold r__law_struck_by d__law_struck_by
  walk_at "ev"
  generalize (c % ((2 ^ b.banes.length:Nat):Int)).toNat=m0 at hd
  refine xq fun _ kq=>?_
  refine x1_3 (e_yields ok hd) fun f0 e0 h0 l0 => ?_
  apply kq
  have d0:decide (bn b g∈f0)=(stk b m0).testBit g:=by
    rw [Bool.eq_iff_iff,decide_eq_true_iff,stk_bit,h0]
    exact ⟨fun h=>⟨hg,h⟩,fun h=>h.2⟩
  rw [bn_get hg,e0]
  walk_at "ev"
  rw [d0]
  cases hst:(stk b m0).testBit g with
  | true=>walk_at "ev";exact ⟨m0,rfl,hd,hst⟩
  | false=>walk_at "ev";exact ⟨2 ^ b.banes.length - 1,rfl,two_full _,h⟩
noncomputable abbrev G (b:Bk) (m held:Nat) (cs:List Int) (found:List Nat) (a:Addr) (s6 s7 s8 s9 s10 s11:Slot):PEnv :=
  [.fz b.enc,.fz (.lst (encN (rkL b (m + 1)))),.fz (pN held),.fz (.lst (cs.map .int)),.fz (.lst (encN found)),.fz (.opq a),s6,s7,s8,s9,s10,s11]
theorem e_spots {b:Bk} (ok:b.Ok) (m held:Nat) (cs:List Int) {found:List Nat} (hf:∀ w,w∈found↔(yl b (2 ^ b.banes.length - 1)).testBit w=true) (a:Addr) (s6 s7 s8 s9 s10 s11:Slot) :
    (sSetO [1,2,0,4] 7 (mComp (iRg1 (mCall pLen (aCons (mVar 1) aNil))) 1 [2,0,4] (gSet 0) (bAnd (truB (bin2 pEq (bin2 pAnd (bin2 pShr (mVar 1) (mVar 0)) (mN 1)) (mN 1))) (truB (bin2 pIn (bin2 pIx (bin2 pIx (mVar 2) (mN 1)) (mVar 0)) (mVar 3)))) (mVar 0))) (G b m held cs found a s6 s7 s8 s9 s10 s11)
      = some (.nx (G b m held cs found a s6 (.ow (encN (spL b held))) s8 s9 s10 s11)):=by
  have h8:=ok.g8
  unfold G
  walk_at "ev"
  rw [compNF (fun k=>held.testBit k&&(yl b (2 ^ b.banes.length - 1)).testBit (bn b k)) (List.range b.banes.length) fun k hk=>⟨_,rfl,spot_test (List.mem_range.mp hk) hf,by walk_at "ev"⟩]
  walk_at "ev"
  rfl
theorem xm_ok1 (b:Bk) (h n:Nat) (u:Una):okM "moves" "doubted" (tk b h u n)=true:=by
  show (!(["book","held","unanswered"]:List Str).contains "doubted" && !(("doubted":Str)==("moves":Str)))=true
  decide +kernel
theorem xm_ok2 (b:Bk) (h n:Nat) (u:Una):okM "moves" "replied" (tk b h u n)=true:=by
  show (!(["book","held","unanswered"]:List Str).contains "replied" && !(("replied":Str)==("moves":Str)))=true
  decide +kernel
noncomputable def I (b:Bk) (m T:Nat) (cs:List Int) (found:List Nat) (a:Addr) (k:Nat) (γ:PEnv) (t:OT):Prop :=
  ∃ held n s6 s7 s8 s9 s10 s11,γ=G b m held cs found a s6 s7 s8 s9 s10 s11∧t=tk b held .no n∧(∀ g,held.testBit g=true→(it b (T - k)).testBit g=true)∧n≤2 * k
noncomputable def Post (b:Bk) (m:Nat) (cs:List Int) (found:List Nat) (a:Addr) (γ:PEnv) (t:OT):Prop :=
  ∃ held n s6 s7 s8 s9 s10 s11,γ=G b m held cs found a s6 s7 s8 s9 s10 s11∧t=tk b held .no n∧(held&&&stk b (2 ^ b.banes.length - 1)==0)=true
theorem turn (C:Addr) {b:Bk} (ok:b.Ok) {m T held k x n:Nat} (cs:List Int) {found:List Nat} (hf:∀ w,w∈found↔(yl b (2 ^ b.banes.length - 1)).testBit w=true) (a:Addr) (hl:Last b m) (hT:T≤m) (hk:k < T) (hm:m≤8) (hh:∀ g,held.testBit g=true→(it b (T - k)).testBit g=true) (hn:n≤2 * k) (s7 s8 s9 s10 s11:Slot) :
    (∃ γ2 t2,b1__law_won C (G b m held cs found a (.fz (pN x)) s7 s8 s9 s10 s11) (tk b held .no n)=some (.nx γ2 t2)∧I b m T cs found a (k + 1) γ2 t2) ∨
    (∃ γ2 t2,b1__law_won C (G b m held cs found a (.fz (pN x)) s7 s8 s9 s10 s11) (tk b held .no n)=some (.bk γ2 t2)∧Post b m cs found a γ2 t2):=by
  have h8:=ok.g8
  have hp:=Nat.two_pow_pos b.banes.length
  have hlt:=sub_lt (it_lt b _) hh
  unfold b1__law_won
  rw [xq_seq (xq_lift (e_spots ok m held cs hf a (.fz (pN x)) s7 s8 s9 s10 s11) rfl)]
  cases hs:(spL b held).isEmpty with
  | true =>
    right
    refine ⟨_,_,xq_seqB (xq_liftB (γ':=G b m held cs found a (.fz (pN x)) (.ow (encN (spL b held))) s8 s9 s10 s11) ?_ rfl),held,n,_,_,_,_,_,_,rfl,rfl,?_⟩
    · unfold G
      walk_at "ev"
      rw [hs]
      walk_at "ev"
    · rw [← spL_empty];exact hs
  | false =>
    left
    refine xq fun _ kq=>?_
    refine x1_4 (spot_pick (cs.getD x 0) hs) fun g eg hg1 hg2 hgl => ?_
    have hgb:=bit_lt hlt hg1
    obtain ⟨q1,q2⟩:=rk_le (b:=b) (n:=m + 1) (show T - k < m + 1 by omega) (hh g hg1)
    refine x1_3 (e_struck_by ok (cs.getD x 0 / ((60:Nat):Int)) hg2) fun s es hs1 hs2 => ?_
    refine x2_4 (e_reply ok (show g≤1000 by omega) hs1 hl q1 hs2) fun j U er r1 r2 r3 => ?_
    apply kq
    have hjb:=bit_lt hs1 r1
    have hst:(stk b U).testBit j=true:=stk_bit.mpr ⟨hjb,r3.1⟩
    rw [xq_seq (γ':=G b m held cs found a (.fz (pN x)) (.ow (encN (spL b held))) s8 s9 s10 s11) (t':=tk b held .no n)]
    · rw [xq_seq (γ':=G b m held cs found a (.fz (pN x)) (.ow (encN (spL b held))) (.fz (.int (cs.getD x 0))) s9 s10 s11) (t':=tk b held .no n)]
      · rw [xq_seq (γ':=G b m held cs found a (.fz (pN x)) (.ow (encN (spL b held))) (.fz (.int (cs.getD x 0))) (.fz (pN g)) s10 s11) (t':=tk b held .no n)]
        · rw [xq_seq (γ':=G b m held cs found a (.fz (pN x)) (.ow (encN (spL b held))) (.fz (.int (cs.getD x 0))) (.fz (pN g)) (.fz (pN s)) s11) (t':=tk b held .no n)]
          · rw [xq_seq (γ':=G b m held cs found a (.fz (pN x)) (.ow (encN (spL b held))) (.fz (.int (cs.getD x 0))) (.fz (pN g)) (.fz (pN s)) (.fz (.tup [pN j,pN U]))) (t':=tk b held .no n)]
            · rw [xq_seq (γ':=G b m held cs found a (.fz (pN x)) (.ow (encN (spL b held))) (.fz (.int (cs.getD x 0))) (.fz (pN g)) (.fz (pN s)) (.fz (.tup [pN j,pN U]))) (t':=tk b held .no n)]
              · rw [xq_seq (γ':=G b m held cs found a (.fz (pN x)) (.ow (encN (spL b held))) (.fz (.int (cs.getD x 0))) (.fz (pN g)) (.fz (pN s)) (.fz (.tup [pN j,pN U]))) (t':=tk b held (.yes g s) (n + 1))]
                · rw [xq_seq (γ':=G b m held cs found a (.fz (pN x)) (.ow (encN (spL b held))) (.fz (.int (cs.getD x 0))) (.fz (pN g)) (.fz (pN s)) (.fz (.tup [pN j,pN U]))) (t':=tk b U .no (n + 2))]
                  · rw [xq_seq (γ':=G b m U cs found a (.fz (pN x)) (.ow (encN (spL b held))) (.fz (.int (cs.getD x 0))) (.fz (pN g)) (.fz (pN s)) (.fz (.tup [pN j,pN U]))) (t':=tk b U .no (n + 2))]
                    · rw [xq_ifF fun c => ?_]
                      · exact ⟨_,_,rfl,U,n + 2,_,_,_,_,_,_,rfl,rfl,fun g hg=>it_monos ok (by omega) (r2 g hg),by omega⟩
                      · unfold G
                        walk_at "ev"
                        rw [e_now]
                        walk_at "ev"
                        rw [show (U==U)=true from beq_self_eq_true U]
                        walk_at "ev"
                        rw [e_turn]
                        walk_at "ev"
                        rfl
                    · refine xq_lift ?_ rfl
                      unfold G
                      walk_at "ev"
                  · exact xq_meth (qs:=[pN j,pN U]) (a:=a) (by unfold G;walk_at "ev") rfl (xm_ok2 _ _ _ _) (e_replied C a ok (by omega) r1 hst)
                · exact xq_meth (qs:=[pN g,pN s]) (a:=a) (by unfold G;walk_at "ev") rfl (xm_ok1 _ _ _ _) (e_doubted C a ok (by omega) hg1 hs2)
              · refine xq_lift ?_ rfl
                unfold G
                walk_at "ev"
                rw [e_good2 ok hgb hs1 r2 q1 r1 r3]
                walk_at "ev"
            · refine xq_lift ?_ rfl
              unfold G
              walk_at "ev"
              rw [er]
              walk_at "ev"
          · refine xq_lift ?_ rfl
            unfold G
            walk_at "ev"
            rw [es]
            walk_at "ev"
        · refine xq_lift ?_ rfl
          unfold G
          walk_at "ev"
          rw [eg]
          walk_at "ev"
      · refine xq_lift ?_ rfl
        unfold G
        walk_at "ev"
    · refine xq_lift ?_ rfl
      unfold G
      walk_at "ev"
      rw [hs]
      walk_at "ev"
theorem e_won (C:Addr) {b:Bk} (ok:b.Ok) {m held:Nat} (cs:List Int) (hl:Last b m) (hm:m≤8) (hh:∀ g,held.testBit g=true→g < b.banes.length∧rkN b (m + 1) g≠0):r__law_won C [b.enc,.lst (encN (rkL b (m + 1))),pN held,.lst (cs.map .int)]=some (.bl true):=by
  have h8:=ok.g8
  have hp:=Nat.two_pow_pos b.banes.length
  have hp8:=pow8 h8
  unfold r__law_won d__law_won
  walk_at "ev"
  refine xq fun _ kq=>?_
  refine x1_3 (e_yields ok (two_full b.banes.length)) fun found ef hf lf => ?_
  apply kq
  rw [ef]
  walk_at "ev"
  refine xq fun _ kq=>?_
  refine x1_3 (e_tops ok m held) fun T eT hT hT2 => ?_
  apply kq
  rw [xq_make (qs:=[b.enc,pN held]) (t:=tk b held .no 0) (r := .bl true) (by walk_at "ev") (fun a=>e_init C a b held) (by simp) fun a => ?_]
  · walk_at "ev"
  · show xSeq _ _ (G b m held cs found a .un .un .un .un .un .un) (tk b held .no 0)=_
    have hfor:xForR 5 (iRg1 (mCall r__law_tops (aCons (mVar 1) (aCons (mVar 2) aNil)))) (gSet 6) (b1__law_won C) (G b m held cs found a .un .un .un .un .un .un) (tk b held .no 0)=forX 5 (gSet 6) (b1__law_won C) ((List.range T).map pN) (G b m held cs found a .un .un .un .un .un .un) (tk b held .no 0):=by
      unfold xForR
      rw [show (iRg1 (mCall r__law_tops (aCons (mVar 1) (aCons (mVar 2) aNil)))) (G b m held cs found a .un .un .un .un .un .un)=some (encN (List.range T)) by
        unfold G
        walk_at "ev"
        rw [eT]
        walk_at "ev"]
      rfl
    have fin:∀ {γ:PEnv} {t:OT},Post b m cs found a γ t→xRetA 5 (rdObj C "moves") (bin2 pEq (mMeth C "winner" (r_Talk_winner C) (mVar 5) aNil) (mC (.str "speaker"))) γ t=some (.rt (.bl true)):=by
      rintro γ t ⟨held,n,s6,s7,s8,s9,s10,s11,rfl,rfl,hz⟩
      refine xq_ret (fun c => ?_) rfl
      unfold G
      walk_at "ev"
      rw [win_str C ok (h:=held) (u := .no) c hz]
      exact w_ss
    rcases forX_q (j:=5) (g:=gSet 6) (b:=b1__law_won C) pN (I b m T cs found a) (Post b m cs found a) (.bl true) T (List.range T) 0 (G b m held cs found a .un .un .un .un .un .un) (tk b held .no 0) (by simp)
      ⟨held,0,_,_,_,_,_,_,rfl,rfl,fun g hg=>by
        obtain ⟨h1,h2⟩:=hh g hg
        exact it_monos ok (hT2 g h1 hg) (rk_pos h2).2.2,Nat.le_refl _⟩ (by
        rintro k x hk hx γ t ⟨held,n,s6,s7,s8,s9,s10,s11,rfl,rfl,hh,hn⟩
        refine ⟨_,rfl,rfl,?_⟩
        rcases turn C ok cs hf a hl hT hk hm hh hn s7 s8 s9 s10 s11 with h | h
        · exact .inl h
        · exact .inr (.inl h)) with ⟨γ',t',e,h | h⟩ | e
    · rw [xq_seq (hfor.trans e)]
      refine xq fun _ kq=>?_
      refine x8_4 (h) fun held n s6 s7 s8 s9 s10 s11 zq1 zq2 hh hn => ?_
      obtain rfl:=zq1
      obtain rfl:=zq2
      apply kq
      refine fin ⟨held,n,_,_,_,_,_,_,rfl,rfl,and_z.mpr fun k hk => ?_⟩
      have:=hh k hk
      rw [List.length_range,Nat.zero_add,Nat.sub_self,it_zero] at this
      cases this
    · rw [xq_seq (hfor.trans e)]
      exact fin h
    · rw [xq_seqR (hfor.trans e)]
theorem lv_test (lv:Int) (k:Nat) (s:Slot):(truB (bin2 pEq (bin2 pAnd (bin2 pShr (mVar 2) (mVar 0)) (mN 1)) (mN 0))) [.fz (pN k),s,.fz (.int lv)]=some (Builtin.bitAnd (lv / 2 ^ k) 1==0):=by
  walk_at "ev"
  rw [show pShr (.int lv) (pN k)=some (.int (lv / 2 ^ k)) by
    show pShr (.int lv) (.int (k:Int))=_
    rw [pShr_i (by omega),Int.toNat_natCast]]
  walk_at "ev"
  rw [show pAnd (.int (lv / 2 ^ k)) (pN 1)=some (.int (Builtin.bitAnd (lv / 2 ^ k) 1)) from pAnd_i _ _]
  walk_at "ev"
  rw [show pEq (.int (Builtin.bitAnd (lv / 2 ^ k) 1)) (pN 0)=some (.bl (Builtin.bitAnd (lv / 2 ^ k) 1==0)) from pEq_i _ _]
  walk_at "ev"
theorem law_true (C:Addr) (ns:List Int) (hn:ns.length≤63):r_law_k34 C [.lst (ns.map .int)]=some (.bl true):=by
  unfold r_law_k34 d_law_k34
  walk_at "ev"
  have hg:=imod_lt (ns.getD 0 0) (show 0 < 7 by decide)
  have hx:=imod_lt (ns.getD 0 0 / ((7:Nat):Int) + ((1:Nat):Int)) (show 0 < 9 by decide)
  have hc:=imod_lt (ns.getD 2 0) (show 0 < 9 by decide)
  generalize (ns.getD 0 0 % ((7:Nat):Int)).toNat=g0 at *
  rw [ifK_setn (7 + g0 % 2) g0 (by walk_at "ev") rfl]
  have hw2:(if ((ns.getD 0 0 / ((63:Nat):Int) % ((8:Nat):Int)).toNat==1)=true then 7 + g0 % 2 else g0)≤8:=ifn_le (by omega) (by omega)
  generalize (if ((ns.getD 0 0 / ((63:Nat):Int) % ((8:Nat):Int)).toNat==1)=true then 7 + g0 % 2 else g0)=g at *
  walk_at "ev"
  generalize ((ns.getD 0 0 / ((7:Nat):Int) + ((1:Nat):Int)) % ((9:Nat):Int)).toNat=x at *
  generalize (ns.getD 2 0 % ((9:Nat):Int)).toNat=y at *
  refine xq fun _ kq=>?_
  refine x1_4 (e_book_of5 ns hn (3 + y) hw2 (show g≤g + x by omega) (by omega)) fun b eb ok hl hbw => ?_
  apply kq
  rw [eb]
  subst hl
  have h8:=ok.g8
  have hp:=Nat.two_pow_pos b.banes.length
  have hp8:=pow8 h8
  walk_at "ev"
  refine x1_2 (e_ranks ok) fun m er hlast => ?_
  have hm8:m≤8:=by
    refine xq fun _ kq=>?_
    refine x1_3 (e_rounds ok) fun m' _ hl' h => ?_
    apply kq
    rw [hlast.unique hl'];exact h
  rw [er]
  walk_at "ev"
  obtain ⟨γ',e,s6,s7,s8,rfl⟩:=forR_n (g:=gSet 6) (b:=b1_law_k34 C) (fun j γ=>∃ s6 s7 s8,γ=[.fz (.lst (ns.map .int)),.fz (pN b.banes.length),.fz (pN (b.banes.length + x)),.fz (pN (3 + y)),.fz b.enc,.fz (.lst (encN (rkL b (m + 1)))),s6,s7,s8,.un,.un,.un])
    b.banes.length [.fz (.lst (ns.map .int)),.fz (pN b.banes.length),.fz (pN (b.banes.length + x)),.fz (pN (3 + y)),.fz b.enc,.fz (.lst (encN (rkL b (m + 1)))),.un,.un,.un,.un,.un,.un] ⟨.un,.un,.un,rfl⟩ (by
      rintro k γ hk ⟨s6,s7,s8,rfl⟩
      have key:∃ s7' s8',b1_law_k34 C [.fz (.lst (ns.map .int)),.fz (pN b.banes.length),.fz (pN (b.banes.length + x)),.fz (pN (3 + y)),.fz b.enc,.fz (.lst (encN (rkL b (m + 1)))),.fz (pN k),s7,s8,.un,.un,.un]=some (.nx [.fz (.lst (ns.map .int)),.fz (pN b.banes.length),.fz (pN (b.banes.length + x)),.fz (pN (3 + y)),.fz b.enc,.fz (.lst (encN (rkL b (m + 1)))),.fz (pN k),s7',s8',.un,.un,.un]):=by
        have hd:=imod_lt (ns.getD (3 + y + 20 + k) 0) hp
        unfold b1_law_k34
        walk_at "ev"
        generalize (ns.getD (3 + y + 20 + k) 0 % ((2 ^ b.banes.length:Nat):Int)).toNat=s at *
        refine xq fun _ kq=>?_
        refine x1_3 (e_yields ok hd) fun f0 e0 h0 l0 => ?_
        apply kq
        have d0:decide (bn b k∈f0)=(stk b s).testBit k:=by
          rw [Bool.eq_iff_iff,decide_eq_true_iff,stk_bit,h0]
          exact ⟨fun h=>⟨hk,h⟩,fun h=>h.2⟩
        by_cases hr:rkN b (m + 1) k=0
        · rw [e_reply_free ok (by omega) hlast hr]
          walk_at "ev"
          rw [rkL_get hk,hr]
          walk_at "ev"
          rw [show ((0:Nat)==0)=true from rfl]
          walk_at "ev"
          exact ⟨_,_,rfl⟩
        · cases hs:(stk b s).testBit k with
          | false =>
            rw [e_reply_far ok hs]
            walk_at "ev"
            rw [rkL_get hk]
            walk_at "ev"
            rw [show (rkN b (m + 1) k==0)=false by rw [beq_eq_false_iff_ne];exact hr]
            walk_at "ev"
            rw [bn_get hk,e0]
            walk_at "ev"
            rw [d0,hs]
            walk_at "ev"
            exact ⟨_,_,rfl⟩
          | true =>
            refine xq fun _ kq=>?_
            refine x2_4 (e_reply ok (show k≤1000 by omega) hd hlast hr hs) fun j U er2 r1 r2 r3 => ?_
            apply kq
            rw [er2]
            walk_at "ev"
            rw [rkL_get hk]
            walk_at "ev"
            rw [show (rkN b (m + 1) k==0)=false by rw [beq_eq_false_iff_ne];exact hr]
            walk_at "ev"
            rw [bn_get hk,e0]
            walk_at "ev"
            rw [d0,hs]
            walk_at "ev"
            rw [e_good2 ok hk hd r2 hr r1 r3]
            walk_at "ev"
            exact ⟨_,_,rfl⟩
      refine x2_1 (key) fun s7' s8' e => ?_
      exact ⟨_,_,rfl,e,_,_,_,rfl⟩)
  rw [e]
  walk_at "ev"
  obtain ⟨γ',e,s9,s10,s11,rfl⟩:=forR_n (g:=gSet 9) (b:=b2_law_k34 C) (fun j γ=>∃ s9 s10 s11,γ=[.fz (.lst (ns.map .int)),.fz (pN b.banes.length),.fz (pN (b.banes.length + x)),.fz (pN (3 + y)),.fz b.enc,.fz (.lst (encN (rkL b (m + 1)))),s6,s7,s8,s9,s10,s11])
    5 [.fz (.lst (ns.map .int)),.fz (pN b.banes.length),.fz (pN (b.banes.length + x)),.fz (pN (3 + y)),.fz b.enc,.fz (.lst (encN (rkL b (m + 1)))),s6,s7,s8,.un,.un,.un] ⟨.un,.un,.un,rfl⟩ (by
      rintro t γ ht ⟨s9,s10,s11,rfl⟩
      have key:∃ s10' s11',b2_law_k34 C [.fz (.lst (ns.map .int)),.fz (pN b.banes.length),.fz (pN (b.banes.length + x)),.fz (pN (3 + y)),.fz b.enc,.fz (.lst (encN (rkL b (m + 1)))),s6,s7,s8,.fz (pN t),s10,s11]=some (.nx [.fz (.lst (ns.map .int)),.fz (pN b.banes.length),.fz (pN (b.banes.length + x)),.fz (pN (3 + y)),.fz b.enc,.fz (.lst (encN (rkL b (m + 1)))),s6,s7,s8,.fz (pN t),s10',s11']):=by
        unfold b2_law_k34
        walk_at "ev"
        generalize ns.getD (3 + y + 4 * t) 0 / ((7:Nat):Int)=lv
        rw [show encN (List.range b.banes.length)=(List.range b.banes.length).map pN from rfl]
        rw [compL_flt pN (fun k=>decide (0 < rkN b (m + 1) k)&&(Builtin.bitAnd (lv / 2 ^ k) 1==0)) (fun k=>pN (2 ^ k)) (List.range b.banes.length) fun k hk=>⟨_,rfl,by
          have hk:=List.mem_range.mp hk
          have ht:=lv_test lv k (.fz (.lst (encN (rkL b (m + 1)))))
          walk_at "ev"
          rw [rkL_get hk]
          walk_at "ev"
          rw [andK_b ht],fun _=>by
          have hk:=List.mem_range.mp hk
          walk_at "ev"⟩,enc_map]
        walk_at "ev"
        rw [show (((List.range b.banes.length).filter fun k=>decide (0 < rkN b (m + 1) k)&&(Builtin.bitAnd (lv / 2 ^ k) 1==0)).map fun g=>2 ^ g).sum=pw ((List.range b.banes.length).filter fun k=>decide (0 < rkN b (m + 1) k)&&(Builtin.bitAnd (lv / 2 ^ k) 1==0)) from rfl]
        rw [e_won C ok _ hlast hm8 fun g hg=>by
          rw [testBit_pw _ _ (List.Pairwise.filter _ List.pairwise_lt_range),List.mem_filter,List.mem_range,Bool.and_eq_true,decide_eq_true_iff] at hg
          exact ⟨hg.1,by have:=hg.2.1;omega⟩]
        walk_at "ev"
        exact ⟨_,_,rfl⟩
      refine x2_1 (key) fun s10' s11' e => ?_
      exact ⟨_,_,rfl,e,_,_,_,rfl⟩)
  rw [e]
  walk_at "ev"
end K34

namespace K34
open PySem PySem.Spec PyProof.Rows L2 L2.PM DH
noncomputable def top (i:Nat):Stmt:=PySem.Challenge.pw_doubthall_k34_whole_speaker.main.body.getD i (.Pass ⟨0,0,0,0⟩)
structure Txt (mg:Str→Option Value):Prop where
  b_all:mg "all"=none
  b_bool:mg "bool"=none
  b_enumerate:mg "enumerate"=none
  b_int:mg "int"=none
  b_isinstance:mg "isinstance"=none
  b_len:mg "len"=none
  b_max:mg "max"=none
  b_range:mg "range"=none
  b_sum:mg "sum"=none
  b_tuple:mg "tuple"=none
structure TFld (K:PySem.W.Frag) (C:Addr):Prop where
  fl_book:CFld K C "book"
  fl_held:CFld K C "held"
  fl_unanswered:CFld K C "unanswered"
  fl_moves:CFld K C "moves"
noncomputable abbrev s__law_shaped:Stmt:=top 32
noncomputable def N__law_shaped:List Str:=["shape","banes","guesses","rules","k","rule"]
theorem ok__law_shaped {P:Program} {w:World} {K:PySem.W.Frag} {mg:Str→Option Value} {base:Heap} {f:Addr} {fd:FuncData} (T:Txt mg)  (F:Fun K "_law_shaped" "_law_shaped" s__law_shaped f fd):FnOk P w K mg base CX0 1 f fd ["shape","banes","guesses"] (spO K 3 r__law_shaped_2):=by
  have sc:FnScope N__law_shaped ["shape","banes","guesses"] (defScope s__law_shaped):=⟨rfl,rfl,rfl,by decide +kernel,rfl,by decide +kernel,by decide +kernel⟩
  have nd:=sc.nd
  refine fnO (N:=N__law_shaped) (k:=0) F sc rfl fun cdv A outer s H E hr => ?_
  exact (ss_cons (sm_setO (i:=3) nd rfl (Or.inl rfl) (eo_lst am_nil))
      (ss_cons (sm_forR PassesOwn.never rfl (imr_range1 (by rfl) T.b_range (am_cons (em_var 2 (pv 2)) am_nil)) (gm_name (pg_name (i:=4) nd rfl (Or.inl rfl))) (ss_one (sm_if (WM.tm (wm_or (WM.tm (wm_and (tm_cmp (om_eq hr.units) (em_var 0 (pv 0)) em_int (nomark _)) (wm_and1 (tm_cmp om_lt (em_op om_add (em_var 4 (pv 4)) em_int) (em_var 2 (pv 2)) (nomark _))))) (wm_or1 (tm_cmp (om_eq hr.units) (em_var 0 (pv 0)) em_int (nomark _))))) (ss_cons (sm_set (i:=5) nd rfl (Or.inl rfl) (em_tup (am_cons (em_ix im_ix (em_var 1 (pv 1)) (em_var 4 (pv 4)) (fun _ _=>rfl)) (am_cons (em_tup (am_cons (em_op om_mod (em_op om_add (em_var 4 (pv 4)) em_int) (em_var 2 (pv 2))) am_nil)) am_nil))))
      (ss_one (sm_if (tm_cmp (om_notIn hr.units) (em_var 5 (pv 5)) (em_var 3 (pv 3)) (by with_unfolding_all rfl)) (ss_one (sm_app (i:=3) (pv 3) (em_var 5 (pv 5)) (ps_expr (pe_bm PySem.F.plainAttrs_list PySem.F.slot_list_append PySem.F.type_list_append mt_append (pv 3) (am_cons' (em_var 5 (pv 5))))))) ss_nil))) ss_nil)))
      (ss_one (sm_retV 3 (pv 3)))))
noncomputable abbrev s__law_cell_at:Stmt:=top 30
noncomputable def N__law_cell_at:List Str:=["script","k"]
theorem ok__law_cell_at {P:Program} {w:World} {K:PySem.W.Frag} {mg:Str→Option Value} {base:Heap} {f:Addr} {fd:FuncData} (T:Txt mg)  (F:Fun K "_law_cell_at" "_law_cell_at" s__law_cell_at f fd):FnOk P w K mg base CX0 1 f fd ["script","k"] (spM K 2 r__law_cell_at):=by
  have sc:FnScope N__law_cell_at ["script","k"] (defScope s__law_cell_at):=⟨rfl,rfl,rfl,by decide +kernel,rfl,by decide +kernel,by decide +kernel⟩
  have nd:=sc.nd
  refine fnM (N:=N__law_cell_at) (k:=0) F sc rfl fun cdv A outer s H E hr => ?_
  exact (ss_cons (sm_if (tm_cmp om_lt (em_var 1 (pv 1)) (em_callB cm_len (by rfl) T.b_len PySem.boot_len (am_cons (em_var 0 (pv 0)) am_nil)) (nomark _)) (ss_one (sm_ret (em_ix im_ix (em_var 0 (pv 0)) (em_var 1 (pv 1)) (fun _ _=>rfl)))) ss_nil)
      (ss_one (sm_ret em_int)))
noncomputable abbrev s__law_rule_of:Stmt:=top 31
noncomputable def N__law_rule_of:List Str:=["cell","guesses","words","number","head","size","picks","k"]
theorem ok__law_rule_of {P:Program} {w:World} {K:PySem.W.Frag} {mg:Str→Option Value} {base:Heap} {f:Addr} {fd:FuncData} (T:Txt mg)  (F:Fun K "_law_rule_of" "_law_rule_of" s__law_rule_of f fd):FnOk P w K mg base CX0 1 f fd ["cell","guesses","words"] (spM K 3 r__law_rule_of_2):=by
  have sc:FnScope N__law_rule_of ["cell","guesses","words"] (defScope s__law_rule_of):=⟨rfl,rfl,rfl,by decide +kernel,rfl,by decide +kernel,by decide +kernel⟩
  have nd:=sc.nd
  refine fnM (N:=N__law_rule_of) (k:=0) F sc rfl fun cdv A outer s H E hr => ?_
  exact (ss_cons (sm_set (i:=3) nd rfl (Or.inl rfl) (em_op om_mod (em_op om_mul (em_op om_add (em_op om_mod (em_var 0 (pv 0)) em_int) em_int) em_int) em_int))
      (ss_cons (sm_set (i:=4) nd rfl (Or.inl rfl) (em_op om_add (em_var 1 (pv 1)) (em_op om_mod (em_op om_div (em_var 3 (pv 3)) em_int) (em_op om_sub (em_var 2 (pv 2)) (em_var 1 (pv 1))))))
      (ss_cons (sm_set (i:=3) nd rfl (Or.inl rfl) (em_op om_mod (em_op om_mul (em_var 3 (pv 3)) em_int) em_int))
      (ss_cons (sm_set (i:=5) nd rfl (Or.inl rfl) (em_ix im_ix (EO.em (eo_lst (am_int (am_int (am_int (am_int (am_int (am_int am_nil)))))))) (em_op om_mod (em_op om_div (em_var 3 (pv 3)) em_int) em_int) (fun _ _=>rfl)))
      (ss_cons (sm_setO (i:=6) nd rfl (Or.inr rfl) (eo_lst am_nil))
      (ss_cons (sm_forR PassesOwn.never rfl (imr_range1 (by rfl) T.b_range (am_cons (em_var 5 (pv 5)) am_nil)) (gm_name (pg_name (i:=7) nd rfl (Or.inl rfl))) (ss_cons (sm_set (i:=3) nd rfl (Or.inl rfl) (em_op om_mod (em_op om_mul (em_var 3 (pv 3)) em_int) em_int))
      (ss_one (sm_app (i:=6) (pv 6) (em_op om_mod (em_op om_div (em_var 3 (pv 3)) em_int) (em_var 2 (pv 2))) (ps_expr (pe_bm PySem.F.plainAttrs_list PySem.F.slot_list_append PySem.F.type_list_append mt_append (pv 6) (am_cons' (em_op om_mod (em_op om_div (em_var 3 (pv 3)) em_int) (em_var 2 (pv 2))))))))))
      (ss_one (sm_ret (em_tup (am_cons (em_var 4 (pv 4)) (am_cons (em_callTy cm_tuple (by rfl) T.b_tuple (by kernel_rfl) (am_cons (EO.em (eo_comp (X:=(cxOf CX0 P w K mg base N__law_rule_of "_law_rule_of" (defScope s__law_rule_of) f cdv A outer s H E).nox) (N':=["w","picks"]) (nt:=1) (caps:=[6]) (ts:=[0]) (ns:=([0]++[1])) (ls:=[0]) rfl (ck_of (N:=N__law_rule_of) (osc:=(defScope s__law_rule_of)) rfl rfl (by decide +kernel)) (by decide) (noOw_gSet _) (im_range1 (by rfl) T.b_range (am_cons (em_var 2 (pv 2)) am_nil)) (fun _ _ _ _ _ _=>(gm_name (pg_name (i:=0) (show (["w","picks"]:List Str).Nodup by decide +kernel) rfl (Or.inl rfl)))) (fun _ _ _ _ _ _=>(if_one (tm_cmp (om_in (by exact hr.units)) (em_var 0 (pv 0)) (em_var 1 (pv 1)) (by with_unfolding_all rfl)))) (fun _ _ _ _ _ _=>(em_var 0 (pv 0))))) am_nil)) am_nil)))))))))))
noncomputable abbrev s__law_book_of:Stmt:=top 33
noncomputable def N__law_book_of:List Str:=["script","guesses","words","cut","shape","number","banes","k","rules","cell","rule"]
theorem ok__law_book_of {P:Program} {w:World} {K:PySem.W.Frag} {mg:Str→Option Value} {base:Heap} {f:Addr} {fd:FuncData} (T:Txt mg) (c__law_shaped:CalO P w K mg base 1 "_law_shaped" 3 r__law_shaped_2) (c__law_cell_at:Cal P w K mg base 1 "_law_cell_at" 2 r__law_cell_at) (c__law_rule_of:Cal P w K mg base 1 "_law_rule_of" 3 r__law_rule_of_2) (F:Fun K "_law_book_of" "_law_book_of" s__law_book_of f fd):FnOk P w K mg base CX0 2 f fd ["script","guesses","words","cut"] (spM K 4 r__law_book_of_5):=by
  have sc:FnScope N__law_book_of ["script","guesses","words","cut"] (defScope s__law_book_of):=⟨rfl,rfl,rfl,by decide +kernel,rfl,by decide +kernel,by decide +kernel⟩
  have nd:=sc.nd
  refine fnM (N:=N__law_book_of) (k:=1) F sc rfl fun cdv A outer s H E hr => ?_
  exact (ss_cons (sm_set (i:=4) nd rfl (Or.inl rfl) (em_op om_mod (em_cal c__law_cell_at r__law_cell_at_len (hr.mono (by decide)) (by rfl) (am_cons (em_var 0 (pv 0)) (am_int am_nil))) em_int))
      (ss_cons (sm_if (tm_cmp (om_eq hr.units) (em_var 2 (pv 2)) (em_var 1 (pv 1)) (nomark _)) (ss_one (sm_set (i:=4) nd rfl (Or.inl rfl) (em_op om_mul em_int (em_op om_mod (em_var 4 (pv 4)) em_int)))) ss_nil)
      (ss_cons (sm_set (i:=5) nd rfl (Or.inl rfl) (em_op om_mod (em_op om_mul (em_op om_add (em_op om_mod (em_op om_div (em_cal c__law_cell_at r__law_cell_at_len (hr.mono (by decide)) (by rfl) (am_cons (em_var 0 (pv 0)) (am_int am_nil))) em_int) em_int) em_int) em_int) em_int))
      (ss_cons (sm_setO (i:=6) nd rfl (Or.inl rfl) (eo_lst am_nil))
      (ss_cons (sm_forR PassesOwn.never rfl (imr_range1 (by rfl) T.b_range (am_cons (em_var 1 (pv 1)) am_nil)) (gm_name (pg_name (i:=7) nd rfl (Or.inl rfl))) (ss_cons (sm_set (i:=5) nd rfl (Or.inl rfl) (em_op om_mod (em_op om_mul (em_var 5 (pv 5)) em_int) em_int))
      (ss_one (sm_if (tm_cmp (om_eq hr.units) (em_var 4 (pv 4)) em_int (nomark _)) (ss_one (sm_app (i:=6) (pv 6) (em_op om_mod (em_op om_div (em_var 5 (pv 5)) em_int) (em_var 2 (pv 2))) (ps_expr (pe_bm PySem.F.plainAttrs_list PySem.F.slot_list_append PySem.F.type_list_append mt_append (pv 6) (am_cons' (em_op om_mod (em_op om_div (em_var 5 (pv 5)) em_int) (em_var 2 (pv 2)))))))) (ss_one (sm_if (tm_cmp (om_eq hr.units) (em_var 4 (pv 4)) em_int (nomark _)) (ss_one (sm_app (i:=6) (pv 6) (em_op om_mod (em_op om_add (em_op om_add (em_var 7 (pv 7)) em_int) (em_op om_mod (em_op om_div (em_var 5 (pv 5)) em_int) em_int)) (em_var 1 (pv 1))) (ps_expr (pe_bm PySem.F.plainAttrs_list PySem.F.slot_list_append PySem.F.type_list_append mt_append (pv 6) (am_cons' (em_op om_mod (em_op om_add (em_op om_add (em_var 7 (pv 7)) em_int) (em_op om_mod (em_op om_div (em_var 5 (pv 5)) em_int) em_int)) (em_var 1 (pv 1)))))))) (ss_one (sm_app (i:=6) (pv 6) (em_op om_add (em_var 1 (pv 1)) (em_op om_mod (em_var 7 (pv 7)) (em_op om_sub (em_var 2 (pv 2)) (em_var 1 (pv 1))))) (ps_expr (pe_bm PySem.F.plainAttrs_list PySem.F.slot_list_append PySem.F.type_list_append mt_append (pv 6) (am_cons' (em_op om_add (em_var 1 (pv 1)) (em_op om_mod (em_var 7 (pv 7)) (em_op om_sub (em_var 2 (pv 2)) (em_var 1 (pv 1))))))))))))))))
      (ss_cons (sm_setO (i:=8) nd rfl (Or.inl rfl) (eo_cal c__law_shaped r__law_shaped_2_len (hr.mono (by decide)) (by rfl) (am_cons (em_var 4 (pv 4)) (am_cons (em_var 6 (pv 6)) (am_cons (em_var 1 (pv 1)) am_nil)))))
      (ss_cons (sm_for PassesOwn.never rfl (im_lst (EO.em (eo_cut (em_var 0 (pv 0)) (om_some em_int) (om_some (em_var 3 (pv 3)))))) (gm_name (pg_name (i:=9) nd rfl (Or.inl rfl))) (ss_one (sm_if (WM.tm (wm_and (tm_cmp om_gt (em_var 2 (pv 2)) (em_var 1 (pv 1)) (nomark _)) (wm_and1 (tm_cmp om_lt (em_callB cm_len (by rfl) T.b_len PySem.boot_len (am_cons (em_var 8 (pv 8)) am_nil)) em_int (nomark _))))) (ss_cons (sm_set (i:=10) nd rfl (Or.inl rfl) (em_cal c__law_rule_of r__law_rule_of_2_len (hr.mono (by decide)) (by rfl) (am_cons (em_var 9 (pv 9)) (am_cons (em_var 1 (pv 1)) (am_cons (em_var 2 (pv 2)) am_nil)))))
      (ss_one (sm_if (tm_cmp (om_notIn hr.units) (em_var 10 (pv 10)) (em_var 8 (pv 8)) (by with_unfolding_all rfl)) (ss_one (sm_app (i:=8) (pv 8) (em_var 10 (pv 10)) (ps_expr (pe_bm PySem.F.plainAttrs_list PySem.F.slot_list_append PySem.F.type_list_append mt_append (pv 8) (am_cons' (em_var 10 (pv 10))))))) ss_nil))) ss_nil)))
      (ss_one (sm_ret (em_tup (am_cons (em_var 2 (pv 2)) (am_cons (em_callTy cm_tuple (by rfl) T.b_tuple (by kernel_rfl) (am_cons (em_var 6 (pv 6)) am_nil)) (am_cons (em_callTy cm_tuple (by rfl) T.b_tuple (by kernel_rfl) (am_cons (em_var 8 (pv 8)) am_nil)) am_nil)))))))))))))
noncomputable abbrev s__law_yields:Stmt:=top 34
noncomputable def N__law_yields:List Str:=["book","held","found","changed","rule"]
theorem ok__law_yields {P:Program} {w:World} {K:PySem.W.Frag} {mg:Str→Option Value} {base:Heap} {f:Addr} {fd:FuncData} (T:Txt mg)  (F:Fun K "_law_yields" "_law_yields" s__law_yields f fd):FnOk P w K mg base CX0 1 f fd ["book","held"] (spM K 2 r__law_yields):=by
  have sc:FnScope N__law_yields ["book","held"] (defScope s__law_yields):=⟨rfl,rfl,rfl,by decide +kernel,rfl,by decide +kernel,by decide +kernel⟩
  have nd:=sc.nd
  refine fnM (N:=N__law_yields) (k:=0) F sc rfl fun cdv A outer s H E hr => ?_
  exact (ss_cons (sm_setO (i:=2) nd rfl (Or.inr rfl) (eo_comp (X:=(cxOf CX0 P w K mg base N__law_yields "_law_yields" (defScope s__law_yields) f cdv A outer s H E).nox) (N':=["k","held"]) (nt:=1) (caps:=[1]) (ts:=[0]) (ns:=([1,0]++[])) (ls:=[0]) rfl (ck_of (N:=N__law_yields) (osc:=(defScope s__law_yields)) rfl rfl (by decide +kernel)) (by decide) (noOw_gSet _) (im_range1 (by rfl) T.b_range (am_cons (em_ix im_ix (em_var 0 (pv 0)) em_int (fun _ _=>rfl)) am_nil)) (fun _ _ _ _ _ _=>(gm_name (pg_name (i:=0) (show (["k","held"]:List Str).Nodup by decide +kernel) rfl (Or.inl rfl)))) (fun _ _ _ _ _ _=>(if_one (tm_cmp (om_eq (by exact hr.units)) (em_op om_and (em_op om_shr (em_var 1 (pv 1)) (em_var 0 (pv 0))) em_int) em_int (nomark _)))) (fun _ _ _ _ _ _=>(em_var 0 (pv 0)))))
      (ss_cons (sm_set (i:=3) nd rfl (Or.inl rfl) em_bl)
      (ss_cons (sm_while 1000 PassesOwn.never (tm_truth (em_var 3 (pv 3))) (ss_cons (sm_set (i:=3) nd rfl (Or.inl rfl) em_bl)
      (ss_one (sm_for PassesOwn.never rfl (im_tup (em_ix im_ix (em_var 0 (pv 0)) em_int (fun _ _=>rfl))) (gm_name (pg_name (i:=4) nd rfl (Or.inl rfl))) (ss_one (sm_if (WM.tm (wm_and (tm_cmp (om_notIn hr.units) (em_ix im_ix (em_var 4 (pv 4)) em_int (fun _ _=>rfl)) (em_var 2 (pv 2)) (by with_unfolding_all rfl)) (wm_and1 (tm_truth (em_callB (cm_all rfl) (by rfl) T.b_all (by kernel_rfl) (am_cons (EO.em (eo_comp (X:=(cxOf CX0 P w K mg base N__law_yields "_law_yields" (defScope s__law_yields) f cdv A outer s H E).nox) (N':=["w","found"]) (nt:=1) (caps:=[2]) (ts:=[0]) (ns:=[]) (ls:=[0,1]) rfl (ck_of (N:=N__law_yields) (osc:=(defScope s__law_yields)) rfl rfl (by decide +kernel)) (by decide) (noOw_gSet _) (im_tup (em_ix im_ix (em_var 4 (pv 4)) em_int (fun _ _=>rfl))) (fun _ _ _ _ _ _=>(gm_name (pg_name (i:=0) (show (["w","found"]:List Str).Nodup by decide +kernel) rfl (Or.inl rfl)))) (fun _ _ _ _ _ _=>if_nil) (fun _ _ _ _ _ _=>(em_cmp (om_in (by exact hr.units)) (em_var 0 (pv 0)) (em_var 1 (pv 1)) (by with_unfolding_all rfl))))) am_nil)))))) (ss_cons (sm_app (i:=2) (pv 2) (em_ix im_ix (em_var 4 (pv 4)) em_int (fun _ _=>rfl)) (ps_expr (pe_bm PySem.F.plainAttrs_list PySem.F.slot_list_append PySem.F.type_list_append mt_append (pv 2) (am_cons' (em_ix im_ix (em_var 4 (pv 4)) em_int (fun _ _=>rfl))))))
      (ss_one (sm_set (i:=3) nd rfl (Or.inl rfl) em_bl))) ss_nil))))))
      (ss_one (sm_retV 2 (pv 2))))))
noncomputable abbrev s__law_defends:Stmt:=top 35
noncomputable def N__law_defends:List Str:=["book","held","found","free"]
theorem ok__law_defends {P:Program} {w:World} {K:PySem.W.Frag} {mg:Str→Option Value} {base:Heap} {f:Addr} {fd:FuncData} (T:Txt mg) (c__law_yields:Cal P w K mg base 1 "_law_yields" 2 r__law_yields) (F:Fun K "_law_defends" "_law_defends" s__law_defends f fd):FnOk P w K mg base CX0 2 f fd ["book","held"] (spM K 2 r__law_defends):=by
  have sc:FnScope N__law_defends ["book","held"] (defScope s__law_defends):=⟨rfl,rfl,rfl,by decide +kernel,rfl,by decide +kernel,by decide +kernel⟩
  have nd:=sc.nd
  refine fnM (N:=N__law_defends) (k:=1) F sc rfl fun cdv A outer s H E hr => ?_
  exact (ss_cons (sm_set (i:=2) nd rfl (Or.inr rfl) (em_cal c__law_yields r__law_yields_len (hr.mono (by decide)) (by rfl) (am_cons (em_var 0 (pv 0)) (am_cons (em_var 1 (pv 1)) am_nil))))
      (ss_cons (sm_set (i:=3) nd rfl (Or.inl rfl) (em_callB (cm_sum rfl) (by rfl) T.b_sum (by kernel_rfl) (am_cons (EO.em (eo_comp (X:=(cxOf CX0 P w K mg base N__law_defends "_law_defends" (defScope s__law_defends) f cdv A outer s H E).nox) (N':=["g","book","found"]) (nt:=1) (caps:=[0,2]) (ts:=[0]) (ns:=([1,0]++[2])) (ls:=[0]) rfl (ck_of (N:=N__law_defends) (osc:=(defScope s__law_defends)) rfl rfl (by decide +kernel)) (by decide) (noOw_gSet _) (im_range1 (by rfl) T.b_range (am_cons (em_callB cm_len (by rfl) T.b_len PySem.boot_len (am_cons (em_ix im_ix (em_var 0 (pv 0)) em_int (fun _ _=>rfl)) am_nil)) am_nil)) (fun _ _ _ _ _ _=>(gm_name (pg_name (i:=0) (show (["g","book","found"]:List Str).Nodup by decide +kernel) rfl (Or.inl rfl)))) (fun _ _ _ _ _ _=>(if_one (tm_cmp (om_notIn (by exact hr.units)) (em_ix im_ix (em_ix im_ix (em_var 1 (pv 1)) em_int (fun _ _=>rfl)) (em_var 0 (pv 0)) (fun _ _=>rfl)) (em_var 2 (pv 2)) (by with_unfolding_all rfl)))) (fun _ _ _ _ _ _=>(em_op om_shl em_int (em_var 0 (pv 0)))))) am_nil)))
      (ss_cons (sm_set (i:=2) nd rfl (Or.inr rfl) (em_cal c__law_yields r__law_yields_len (hr.mono (by decide)) (by rfl) (am_cons (em_var 0 (pv 0)) (am_cons (em_var 3 (pv 3)) am_nil))))
      (ss_one (sm_ret (em_callB (cm_sum rfl) (by rfl) T.b_sum (by kernel_rfl) (am_cons (EO.em (eo_comp (X:=(cxOf CX0 P w K mg base N__law_defends "_law_defends" (defScope s__law_defends) f cdv A outer s H E).nox) (N':=["g","book","found"]) (nt:=1) (caps:=[0,2]) (ts:=[0]) (ns:=([1,0]++[2])) (ls:=[0]) rfl (ck_of (N:=N__law_defends) (osc:=(defScope s__law_defends)) rfl rfl (by decide +kernel)) (by decide) (noOw_gSet _) (im_range1 (by rfl) T.b_range (am_cons (em_callB cm_len (by rfl) T.b_len PySem.boot_len (am_cons (em_ix im_ix (em_var 0 (pv 0)) em_int (fun _ _=>rfl)) am_nil)) am_nil)) (fun _ _ _ _ _ _=>(gm_name (pg_name (i:=0) (show (["g","book","found"]:List Str).Nodup by decide +kernel) rfl (Or.inl rfl)))) (fun _ _ _ _ _ _=>(if_one (tm_cmp (om_notIn (by exact hr.units)) (em_ix im_ix (em_ix im_ix (em_var 1 (pv 1)) em_int (fun _ _=>rfl)) (em_var 0 (pv 0)) (fun _ _=>rfl)) (em_var 2 (pv 2)) (by with_unfolding_all rfl)))) (fun _ _ _ _ _ _=>(em_op om_shl em_int (em_var 0 (pv 0)))))) am_nil)))))))
noncomputable abbrev s__law_ranks:Stmt:=top 36
noncomputable def N__law_ranks:List Str:=["book","ranks","held","more","turn","k"]
theorem ok__law_ranks {P:Program} {w:World} {K:PySem.W.Frag} {mg:Str→Option Value} {base:Heap} {f:Addr} {fd:FuncData} (T:Txt mg) (c__law_defends:Cal P w K mg base 2 "_law_defends" 2 r__law_defends) (F:Fun K "_law_ranks" "_law_ranks" s__law_ranks f fd):FnOk P w K mg base CX0 3 f fd ["book"] (spM K 1 r__law_ranks):=by
  have sc:FnScope N__law_ranks ["book"] (defScope s__law_ranks):=⟨rfl,rfl,rfl,by decide +kernel,rfl,by decide +kernel,by decide +kernel⟩
  have nd:=sc.nd
  refine fnM (N:=N__law_ranks) (k:=2) F sc rfl fun cdv A outer s H E hr => ?_
  exact (ss_cons (sm_setcomp (i:=1) nd rfl rfl (N':=["bane"]) (nt:=1) (caps:=[]) (ts:=[0]) (ns:=[]) (ls:=[]) rfl (ck_of (N:=N__law_ranks) (osc:=(defScope s__law_ranks)) rfl rfl (by decide +kernel)) (by decide) (noOw_gSet _) (im_tup (em_ix im_ix (em_var 0 (pv 0)) em_int (fun _ _=>rfl))) (fun _ _ _ _ _ _=>(gm_name (pg_name (i:=0) (show (["bane"]:List Str).Nodup by decide +kernel) rfl (Or.inl rfl)))) (fun _ _ _ _ _ _=>if_nil) (fun _ _ _ _ _ _=>em_int))
      (ss_cons (sm_set (i:=2) nd rfl (Or.inl rfl) em_int)
      (ss_cons (sm_set (i:=3) nd rfl (Or.inl rfl) (em_cal c__law_defends r__law_defends_len (hr.mono (by decide)) (by rfl) (am_cons (em_var 0 (pv 0)) (am_cons (em_var 2 (pv 2)) am_nil))))
      (ss_cons (sm_set (i:=4) nd rfl (Or.inl rfl) em_int)
      (ss_cons (sm_while 1000 PassesOwn.never (tm_cmp (om_ne hr.units) (em_var 3 (pv 3)) (em_var 2 (pv 2)) (nomark _)) (ss_cons (sm_set (i:=2) nd rfl (Or.inl rfl) (em_var 3 (pv 3)))
      (ss_cons (sm_forR PassesOwn.never rfl (imr_range1 (by rfl) T.b_range (am_cons (em_callB cm_len (by rfl) T.b_len PySem.boot_len (am_cons (em_var 1 (pv 1)) am_nil)) am_nil)) (gm_name (pg_name (i:=5) nd rfl (Or.inl rfl))) (ss_one (sm_if (WM.tm (wm_and (tm_cmp (om_eq hr.units) (em_ix im_ix (em_var 1 (pv 1)) (em_var 5 (pv 5)) (fun _ _=>rfl)) em_int (nomark _)) (wm_and1 (tm_cmp (om_eq hr.units) (em_op om_and (em_op om_shr (em_var 2 (pv 2)) (em_var 5 (pv 5))) em_int) em_int (nomark _))))) (ss_one (sm_setIx (i:=1) (pv 1) (em_var 4 (pv 4)) (em_var 5 (pv 5)))) ss_nil)))
      (ss_cons (sm_set (i:=4) nd rfl (Or.inl rfl) (em_op om_add (em_var 4 (pv 4)) em_int))
      (ss_one (sm_set (i:=3) nd rfl (Or.inl rfl) (em_cal c__law_defends r__law_defends_len (hr.mono (by decide)) (by rfl) (am_cons (em_var 0 (pv 0)) (am_cons (em_var 2 (pv 2)) am_nil)))))))))
      (ss_one (sm_retV 1 (pv 1))))))))
noncomputable abbrev s_all_guesses:Stmt:=top 15
noncomputable def N_all_guesses:List Str:=["book"]
theorem ok_all_guesses {P:Program} {w:World} {K:PySem.W.Frag} {mg:Str→Option Value} {base:Heap} {f:Addr} {fd:FuncData} (T:Txt mg)  (F:Fun K "all_guesses" "all_guesses" s_all_guesses f fd):FnOk P w K mg base CX0 1 f fd ["book"] (spM K 1 r_all_guesses):=by
  have sc:FnScope N_all_guesses ["book"] (defScope s_all_guesses):=⟨rfl,rfl,rfl,by decide +kernel,rfl,by decide +kernel,by decide +kernel⟩
  have nd:=sc.nd
  refine fnM (N:=N_all_guesses) (k:=0) F sc rfl fun cdv A outer s H E hr => ?_
  exact (ss_one (sm_ret (em_op om_sub (em_op om_shl em_int (em_callB cm_len (by rfl) T.b_len PySem.boot_len (am_cons (em_ix im_ix (em_var 0 (pv 0)) em_int (fun _ _=>rfl)) am_nil))) em_int)))
noncomputable abbrev s_mask_of:Stmt:=top 8
noncomputable def N_mask_of:List Str:=["row","mask","k"]
theorem ok_mask_of {P:Program} {w:World} {K:PySem.W.Frag} {mg:Str→Option Value} {base:Heap} {f:Addr} {fd:FuncData} (T:Txt mg)  (F:Fun K "mask_of" "mask_of" s_mask_of f fd):FnOk P w K mg base CX0 1 f fd ["row"] (spM K 1 r_mask_of):=by
  have sc:FnScope N_mask_of ["row"] (defScope s_mask_of):=⟨rfl,rfl,rfl,by decide +kernel,rfl,by decide +kernel,by decide +kernel⟩
  have nd:=sc.nd
  refine fnM (N:=N_mask_of) (k:=0) F sc rfl fun cdv A outer s H E hr => ?_
  exact (ss_cons (sm_set (i:=1) nd rfl (Or.inl rfl) em_int)
      (ss_cons (sm_for PassesOwn.never rfl (im_seq (em_var 0 (pv 0))) (gm_name (pg_name (i:=2) nd rfl (Or.inl rfl))) (ss_one (sm_aug (i:=1) nd rfl (Or.inl rfl) (em_op om_shl em_int (em_var 2 (pv 2))) om_ior)))
      (ss_one (sm_retV 1 (pv 1)))))
noncomputable abbrev s_known_after:Stmt:=top 12
noncomputable def N_known_after:List Str:=["book","held","steps"]
theorem ok_known_after {P:Program} {w:World} {K:PySem.W.Frag} {mg:Str→Option Value} {base:Heap} {f:Addr} {fd:FuncData} (T:Txt mg) (c_mask_of:Cal P w K mg base 1 "mask_of" 1 r_mask_of) (F:Fun K "known_after" "known_after" s_known_after f fd):FnOk P w K mg base CX0 2 f fd ["book","held","steps"] (spM K 3 r_known_after):=by
  have sc:FnScope N_known_after ["book","held","steps"] (defScope s_known_after):=⟨rfl,rfl,rfl,by decide +kernel,rfl,by decide +kernel,by decide +kernel⟩
  have nd:=sc.nd
  refine fnM (N:=N_known_after) (k:=1) F sc rfl fun cdv A outer s H E hr => ?_
  exact (ss_one (sm_ret (em_op om_or (em_var 1 (pv 1)) (em_cal c_mask_of r_mask_of_len (hr.mono (by decide)) (by rfl) (am_cons (EO.em (eo_comp (X:=(cxOf CX0 P w K mg base N_known_after "known_after" (defScope s_known_after) f cdv A outer s H E).nox) (N':=["step","book"]) (nt:=1) (caps:=[0]) (ts:=[0]) (ns:=[]) (ls:=[1,0]) rfl (ck_of (N:=N_known_after) (osc:=(defScope s_known_after)) rfl rfl (by decide +kernel)) (by decide) (noOw_gSet _) (im_lst (em_var 2 (pv 2))) (fun _ _ _ _ _ _=>(gm_name (pg_name (i:=0) (show (["step","book"]:List Str).Nodup by decide +kernel) rfl (Or.inl rfl)))) (fun _ _ _ _ _ _=>if_nil) (fun _ _ _ _ _ _=>(em_ix im_ix (em_ix im_ix (em_ix im_ix (em_var 1 (pv 1)) em_int (fun _ _=>rfl)) (em_var 0 (pv 0)) (fun _ _=>rfl)) em_int (fun _ _=>rfl))))) am_nil)))))
noncomputable abbrev s_inside:Stmt:=top 9
noncomputable def N_inside:List Str:=["mask","other"]
theorem ok_inside {P:Program} {w:World} {K:PySem.W.Frag} {mg:Str→Option Value} {base:Heap} {f:Addr} {fd:FuncData} (T:Txt mg)  (F:Fun K "inside" "inside" s_inside f fd):FnOk P w K mg base CX0 1 f fd ["mask","other"] (spM K 2 r_inside):=by
  have sc:FnScope N_inside ["mask","other"] (defScope s_inside):=⟨rfl,rfl,rfl,by decide +kernel,rfl,by decide +kernel,by decide +kernel⟩
  have nd:=sc.nd
  refine fnM (N:=N_inside) (k:=0) F sc rfl fun cdv A outer s H E hr => ?_
  exact (ss_one (sm_ret (em_cmp (om_eq hr.units) (em_op om_and (em_var 0 (pv 0)) (em_var 1 (pv 1))) (em_var 0 (pv 0)) (nomark _))))
noncomputable abbrev s_bringing_steps:Stmt:=top 11
noncomputable def N_bringing_steps:List Str:=["book","held","rules","bodies","known","steps","grown","number","rule","head"]
theorem ok_bringing_steps {P:Program} {w:World} {K:PySem.W.Frag} {mg:Str→Option Value} {base:Heap} {f:Addr} {fd:FuncData} (T:Txt mg) (c_mask_of:Cal P w K mg base 1 "mask_of" 1 r_mask_of) (c_inside:Cal P w K mg base 1 "inside" 2 r_inside) (F:Fun K "bringing_steps" "bringing_steps" s_bringing_steps f fd):FnOk P w K mg base CX0 2 f fd ["book","held"] (spM K 2 r_bringing_steps):=by
  have sc:FnScope N_bringing_steps ["book","held"] (defScope s_bringing_steps):=⟨rfl,rfl,rfl,by decide +kernel,rfl,by decide +kernel,by decide +kernel⟩
  have nd:=sc.nd
  refine fnM (N:=N_bringing_steps) (k:=1) F sc rfl fun cdv A outer s H E hr => ?_
  exact (ss_cons (sm_set (i:=2) nd rfl (Or.inl rfl) (em_ix im_ix (em_var 0 (pv 0)) em_int (fun _ _=>rfl)))
      (ss_cons (sm_setcomp (i:=3) nd rfl rfl (N':=["rule"]) (nt:=1) (caps:=[]) (ts:=[0]) (ns:=[]) (ls:=[0]) rfl (ck_of (N:=N_bringing_steps) (osc:=(defScope s_bringing_steps)) rfl rfl (by decide +kernel)) (by decide) (noOw_gSet _) (im_tup (em_var 2 (pv 2))) (fun _ _ _ _ _ _=>(gm_name (pg_name (i:=0) (show (["rule"]:List Str).Nodup by decide +kernel) rfl (Or.inl rfl)))) (fun _ _ _ _ _ _=>if_nil) (fun _ _ _ _ _ _=>(em_cal c_mask_of r_mask_of_len (hr.mono (by decide)) (by rfl) (am_cons (em_ix im_ix (em_var 0 (pv 0)) em_int (fun _ _=>rfl)) am_nil))))
      (ss_cons (sm_set (i:=4) nd rfl (Or.inl rfl) (em_var 1 (pv 1)))
      (ss_cons (sm_setO (i:=5) nd rfl (Or.inl rfl) (eo_lst am_nil))
      (ss_cons (sm_set (i:=6) nd rfl (Or.inl rfl) em_bl)
      (ss_cons (sm_while 1000 PassesOwn.never (tm_truth (em_var 6 (pv 6))) (ss_cons (sm_set (i:=6) nd rfl (Or.inl rfl) em_bl)
      (ss_one (sm_for PassesOwn.never rfl (im_enumT rfl (by rfl) T.b_enumerate (am_cons (em_var 2 (pv 2)) am_nil)) (gm_tup2 (pg_tup rfl (pgs_cons (pg_name (i:=7) nd rfl (Or.inl rfl)) (pgs_cons (pg_name (i:=8) nd rfl (Or.inl rfl)) pgs_nil)))) (ss_cons (sm_set (i:=9) nd rfl (Or.inl rfl) (em_op om_shl em_int (em_ix im_ix (em_var 8 (pv 8)) em_int (fun _ _=>rfl))))
      (ss_one (sm_if (WM.tm (wm_and (tm_not (tm_truth (em_cal c_inside r_inside_len (hr.mono (by decide)) (by rfl) (am_cons (em_var 9 (pv 9)) (am_cons (em_var 4 (pv 4)) am_nil))))) (wm_and1 (tm_truth (em_cal c_inside r_inside_len (hr.mono (by decide)) (by rfl) (am_cons (em_ix im_ix (em_var 3 (pv 3)) (em_var 7 (pv 7)) (fun _ _=>rfl)) (am_cons (em_var 4 (pv 4)) am_nil))))))) (ss_cons (sm_aug (i:=4) nd rfl (Or.inl rfl) (em_var 9 (pv 9)) om_ior)
      (ss_cons (sm_app (i:=5) (pv 5) (em_var 7 (pv 7)) (ps_expr (pe_bm PySem.F.plainAttrs_list PySem.F.slot_list_append PySem.F.type_list_append mt_append (pv 5) (am_cons' (em_var 7 (pv 7))))))
      (ss_one (sm_set (i:=6) nd rfl (Or.inl rfl) em_bl)))) ss_nil)))))))
      (ss_one (sm_retV 5 (pv 5)))))))))
noncomputable abbrev s_yielded:Stmt:=top 13
noncomputable def N_yielded:List Str:=["book","held"]
theorem ok_yielded {P:Program} {w:World} {K:PySem.W.Frag} {mg:Str→Option Value} {base:Heap} {f:Addr} {fd:FuncData} (T:Txt mg) (c_known_after:Cal P w K mg base 2 "known_after" 3 r_known_after) (c_bringing_steps:Cal P w K mg base 2 "bringing_steps" 2 r_bringing_steps) (F:Fun K "yielded" "yielded" s_yielded f fd):FnOk P w K mg base CX0 3 f fd ["book","held"] (spM K 2 r_yielded):=by
  have sc:FnScope N_yielded ["book","held"] (defScope s_yielded):=⟨rfl,rfl,rfl,by decide +kernel,rfl,by decide +kernel,by decide +kernel⟩
  have nd:=sc.nd
  refine fnM (N:=N_yielded) (k:=2) F sc rfl fun cdv A outer s H E hr => ?_
  exact (ss_one (sm_ret (em_cal c_known_after r_known_after_len (hr.mono (by decide)) (by rfl) (am_cons (em_var 0 (pv 0)) (am_cons (em_var 1 (pv 1)) (am_cons (em_cal c_bringing_steps r_bringing_steps_len (hr.mono (by decide)) (by rfl) (am_cons (em_var 0 (pv 0)) (am_cons (em_var 1 (pv 1)) am_nil))) am_nil))))))
noncomputable abbrev s_struck:Stmt:=top 19
noncomputable def N_struck:List Str:=["book","held","known"]
theorem ok_struck {P:Program} {w:World} {K:PySem.W.Frag} {mg:Str→Option Value} {base:Heap} {f:Addr} {fd:FuncData} (T:Txt mg) (c_mask_of:Cal P w K mg base 1 "mask_of" 1 r_mask_of) (c_inside:Cal P w K mg base 1 "inside" 2 r_inside) (c_yielded:Cal P w K mg base 3 "yielded" 2 r_yielded) (F:Fun K "struck" "struck" s_struck f fd):FnOk P w K mg base CX0 4 f fd ["book","held"] (spM K 2 r_struck):=by
  have sc:FnScope N_struck ["book","held"] (defScope s_struck):=⟨rfl,rfl,rfl,by decide +kernel,rfl,by decide +kernel,by decide +kernel⟩
  have nd:=sc.nd
  refine fnM (N:=N_struck) (k:=3) F sc rfl fun cdv A outer s H E hr => ?_
  exact (ss_cons (sm_set (i:=2) nd rfl (Or.inr rfl) (em_cal c_yielded r_yielded_len (hr.mono (by decide)) (by rfl) (am_cons (em_var 0 (pv 0)) (am_cons (em_var 1 (pv 1)) am_nil))))
      (ss_one (sm_ret (em_cal c_mask_of r_mask_of_len (hr.mono (by decide)) (by rfl) (am_cons (EO.em (eo_comp (X:=(cxOf CX0 P w K mg base N_struck "struck" (defScope s_struck) f cdv A outer s H E).nox) (N':=["guess","bane","known"]) (nt:=2) (caps:=[2]) (ts:=[0,1]) (ns:=[1,2]) (ls:=[0]) rfl (ck_of (N:=N_struck) (osc:=(defScope s_struck)) rfl rfl (by decide +kernel)) (by decide) (noOw_gSet2 _ _) (im_enumT rfl (by rfl) T.b_enumerate (am_cons (em_ix im_ix (em_var 0 (pv 0)) em_int (fun _ _=>rfl)) am_nil)) (fun _ _ _ _ _ _=>(gm_tup2 (pg_tup rfl (pgs_cons (pg_name (i:=0) (show (["guess","bane","known"]:List Str).Nodup by decide +kernel) rfl (Or.inl rfl)) (pgs_cons (pg_name (i:=1) (show (["guess","bane","known"]:List Str).Nodup by decide +kernel) rfl (Or.inl rfl)) pgs_nil))))) (fun _ _ _ _ _ _=>(if_one (tm_truth (em_cal c_inside r_inside_len (hr.mono (by decide)) (by rfl) (am_cons (em_op om_shl em_int (em_var 1 (pv 1))) (am_cons (em_var 2 (pv 2)) am_nil)))))) (fun _ _ _ _ _ _=>(em_var 0 (pv 0))))) am_nil)))))
noncomputable abbrev s_unstruck:Stmt:=top 20
noncomputable def N_unstruck:List Str:=["book","held"]
theorem ok_unstruck {P:Program} {w:World} {K:PySem.W.Frag} {mg:Str→Option Value} {base:Heap} {f:Addr} {fd:FuncData} (T:Txt mg) (c_all_guesses:Cal P w K mg base 1 "all_guesses" 1 r_all_guesses) (c_struck:Cal P w K mg base 4 "struck" 2 r_struck) (F:Fun K "unstruck" "unstruck" s_unstruck f fd):FnOk P w K mg base CX0 5 f fd ["book","held"] (spM K 2 r_unstruck):=by
  have sc:FnScope N_unstruck ["book","held"] (defScope s_unstruck):=⟨rfl,rfl,rfl,by decide +kernel,rfl,by decide +kernel,by decide +kernel⟩
  have nd:=sc.nd
  refine fnM (N:=N_unstruck) (k:=4) F sc rfl fun cdv A outer s H E hr => ?_
  exact (ss_one (sm_ret (em_op om_and (em_cal c_all_guesses r_all_guesses_len (hr.mono (by decide)) (by rfl) (am_cons (em_var 0 (pv 0)) am_nil)) (em_inv (em_cal c_struck r_struck_len (hr.mono (by decide)) (by rfl) (am_cons (em_var 0 (pv 0)) (am_cons (em_var 1 (pv 1)) am_nil)))))))
noncomputable abbrev s_defended:Stmt:=top 21
noncomputable def N_defended:List Str:=["book","held"]
theorem ok_defended {P:Program} {w:World} {K:PySem.W.Frag} {mg:Str→Option Value} {base:Heap} {f:Addr} {fd:FuncData} (T:Txt mg) (c_unstruck:Cal P w K mg base 5 "unstruck" 2 r_unstruck) (F:Fun K "defended" "defended" s_defended f fd):FnOk P w K mg base CX0 6 f fd ["book","held"] (spM K 2 r_defended):=by
  have sc:FnScope N_defended ["book","held"] (defScope s_defended):=⟨rfl,rfl,rfl,by decide +kernel,rfl,by decide +kernel,by decide +kernel⟩
  have nd:=sc.nd
  refine fnM (N:=N_defended) (k:=5) F sc rfl fun cdv A outer s H E hr => ?_
  exact (ss_one (sm_ret (em_cal c_unstruck r_unstruck_len (hr.mono (by decide)) (by rfl) (am_cons (em_var 0 (pv 0)) (am_cons (em_cal c_unstruck r_unstruck_len (hr.mono (by decide)) (by rfl) (am_cons (em_var 0 (pv 0)) (am_cons (em_var 1 (pv 1)) am_nil))) am_nil)))))
noncomputable abbrev s_rounds:Stmt:=top 24
noncomputable def N_rounds:List Str:=["book","held","sets"]
theorem ok_rounds {P:Program} {w:World} {K:PySem.W.Frag} {mg:Str→Option Value} {base:Heap} {f:Addr} {fd:FuncData} (T:Txt mg) (c_defended:Cal P w K mg base 6 "defended" 2 r_defended) (F:Fun K "rounds" "rounds" s_rounds f fd):FnOk P w K mg base CX0 7 f fd ["book"] (spM K 1 r_rounds):=by
  have sc:FnScope N_rounds ["book"] (defScope s_rounds):=⟨rfl,rfl,rfl,by decide +kernel,rfl,by decide +kernel,by decide +kernel⟩
  have nd:=sc.nd
  refine fnM (N:=N_rounds) (k:=6) F sc rfl fun cdv A outer s H E hr => ?_
  exact (ss_cons (sm_set (i:=1) nd rfl (Or.inl rfl) em_int)
      (ss_cons (sm_setO (i:=2) nd rfl (Or.inl rfl) (eo_lst (am_cons (em_var 1 (pv 1)) am_nil)))
      (ss_cons (sm_while 1000 PassesOwn.never (tm_cmp (om_ne hr.units) (em_cal c_defended r_defended_len (hr.mono (by decide)) (by rfl) (am_cons (em_var 0 (pv 0)) (am_cons (em_var 1 (pv 1)) am_nil))) (em_var 1 (pv 1)) (nomark _)) (ss_cons (sm_set (i:=1) nd rfl (Or.inl rfl) (em_cal c_defended r_defended_len (hr.mono (by decide)) (by rfl) (am_cons (em_var 0 (pv 0)) (am_cons (em_var 1 (pv 1)) am_nil))))
      (ss_one (sm_app (i:=2) (pv 2) (em_var 1 (pv 1)) (ps_expr (pe_bm PySem.F.plainAttrs_list PySem.F.slot_list_append PySem.F.type_list_append mt_append (pv 2) (am_cons' (em_var 1 (pv 1)))))))))
      (ss_one (sm_retV 2 (pv 2))))))
noncomputable abbrev s_rank_in:Stmt:=top 25
noncomputable def N_rank_in:List Str:=["sets","guess","number","held"]
theorem ok_rank_in {P:Program} {w:World} {K:PySem.W.Frag} {mg:Str→Option Value} {base:Heap} {f:Addr} {fd:FuncData} (T:Txt mg) (c_inside:Cal P w K mg base 1 "inside" 2 r_inside) (F:Fun K "rank_in" "rank_in" s_rank_in f fd):FnOk P w K mg base CX0 2 f fd ["sets","guess"] (spM K 2 r_rank_in):=by
  have sc:FnScope N_rank_in ["sets","guess"] (defScope s_rank_in):=⟨rfl,rfl,rfl,by decide +kernel,rfl,by decide +kernel,by decide +kernel⟩
  have nd:=sc.nd
  refine fnM (N:=N_rank_in) (k:=1) F sc rfl fun cdv A outer s H E hr => ?_
  exact (ss_cons (sm_for PassesOwn.never rfl (im_enumL rfl (by rfl) T.b_enumerate (am_cons (em_var 0 (pv 0)) am_nil)) (gm_tup2 (pg_tup rfl (pgs_cons (pg_name (i:=2) nd rfl (Or.inl rfl)) (pgs_cons (pg_name (i:=3) nd rfl (Or.inl rfl)) pgs_nil)))) (ss_one (sm_if (tm_truth (em_cal c_inside r_inside_len (hr.mono (by decide)) (by rfl) (am_cons (em_op om_shl em_int (em_var 1 (pv 1))) (am_cons (em_var 3 (pv 3)) am_nil)))) (ss_one (sm_retV 2 (pv 2))) ss_nil)))
      (ss_one (sm_ret em_non)))
noncomputable abbrev s_places:Stmt:=top 7
noncomputable def N_places:List Str:=["mask"]
theorem ok_places {P:Program} {w:World} {K:PySem.W.Frag} {mg:Str→Option Value} {base:Heap} {f:Addr} {fd:FuncData} (T:Txt mg)  (F:Fun K "places" "places" s_places f fd):FnOk P w K mg base CX0 1 f fd ["mask"] (spM K 1 r_places):=by
  have sc:FnScope N_places ["mask"] (defScope s_places):=⟨rfl,rfl,rfl,by decide +kernel,rfl,by decide +kernel,by decide +kernel⟩
  have nd:=sc.nd
  refine fnM (N:=N_places) (k:=0) F sc rfl fun cdv A outer s H E hr => ?_
  exact (ss_one (sm_retO (eo_comp (X:=(cxOf CX0 P w K mg base N_places "places" (defScope s_places) f cdv A outer s H E).nox) (N':=["k","mask"]) (nt:=1) (caps:=[0]) (ts:=[0]) (ns:=[1,0]) (ls:=[0]) rfl (ck_of (N:=N_places) (osc:=(defScope s_places)) rfl rfl (by decide +kernel)) (by decide) (noOw_gSet _) (im_range1 (by rfl) T.b_range (am_cons (em_bits (em_var 0 (pv 0))) am_nil)) (fun _ _ _ _ _ _=>(gm_name (pg_name (i:=0) (show (["k","mask"]:List Str).Nodup by decide +kernel) rfl (Or.inl rfl)))) (fun _ _ _ _ _ _=>(if_one (tm_truth (em_op om_and (em_op om_shr (em_var 1 (pv 1)) (em_var 0 (pv 0))) em_int)))) (fun _ _ _ _ _ _=>(em_var 0 (pv 0))))))
noncomputable abbrev s_does_yield:Stmt:=top 16
noncomputable def N_does_yield:List Str:=["book","held","word"]
theorem ok_does_yield {P:Program} {w:World} {K:PySem.W.Frag} {mg:Str→Option Value} {base:Heap} {f:Addr} {fd:FuncData} (T:Txt mg) (c_inside:Cal P w K mg base 1 "inside" 2 r_inside) (c_yielded:Cal P w K mg base 3 "yielded" 2 r_yielded) (F:Fun K "does_yield" "does_yield" s_does_yield f fd):FnOk P w K mg base CX0 4 f fd ["book","held","word"] (spM K 3 r_does_yield):=by
  have sc:FnScope N_does_yield ["book","held","word"] (defScope s_does_yield):=⟨rfl,rfl,rfl,by decide +kernel,rfl,by decide +kernel,by decide +kernel⟩
  have nd:=sc.nd
  refine fnM (N:=N_does_yield) (k:=3) F sc rfl fun cdv A outer s H E hr => ?_
  exact (ss_one (sm_ret (em_cal c_inside r_inside_len (hr.mono (by decide)) (by rfl) (am_cons (em_op om_shl em_int (em_var 2 (pv 2))) (am_cons (em_cal c_yielded r_yielded_len (hr.mono (by decide)) (by rfl) (am_cons (em_var 0 (pv 0)) (am_cons (em_var 1 (pv 1)) am_nil))) am_nil)))))
noncomputable abbrev s_a_reason:Stmt:=top 17
noncomputable def N_a_reason:List Str:=["book","within","word","reason","guess","smaller"]
theorem ok_a_reason {P:Program} {w:World} {K:PySem.W.Frag} {mg:Str→Option Value} {base:Heap} {f:Addr} {fd:FuncData} (T:Txt mg) (c_places:Cal P w K mg base 1 "places" 1 r_places) (c_does_yield:Cal P w K mg base 4 "does_yield" 3 r_does_yield) (F:Fun K "a_reason" "a_reason" s_a_reason f fd):FnOk P w K mg base CX0 5 f fd ["book","within","word"] (spM K 3 r_a_reason):=by
  have sc:FnScope N_a_reason ["book","within","word"] (defScope s_a_reason):=⟨rfl,rfl,rfl,by decide +kernel,rfl,by decide +kernel,by decide +kernel⟩
  have nd:=sc.nd
  refine fnM (N:=N_a_reason) (k:=4) F sc rfl fun cdv A outer s H E hr => ?_
  exact (ss_cons (sm_if (tm_not (tm_truth (em_cal c_does_yield r_does_yield_len (hr.mono (by decide)) (by rfl) (am_cons (em_var 0 (pv 0)) (am_cons (em_var 1 (pv 1)) (am_cons (em_var 2 (pv 2)) am_nil)))))) (ss_one (sm_ret em_non)) ss_nil)
      (ss_cons (sm_set (i:=3) nd rfl (Or.inl rfl) (em_var 1 (pv 1)))
      (ss_cons (sm_for PassesOwn.never rfl (im_lst (em_cal c_places r_places_len (hr.mono (by decide)) (by rfl) (am_cons (em_var 1 (pv 1)) am_nil))) (gm_name (pg_name (i:=4) nd rfl (Or.inl rfl))) (ss_cons (sm_set (i:=5) nd rfl (Or.inl rfl) (em_op om_and (em_var 3 (pv 3)) (em_inv (em_op om_shl em_int (em_var 4 (pv 4))))))
      (ss_one (sm_if (tm_truth (em_cal c_does_yield r_does_yield_len (hr.mono (by decide)) (by rfl) (am_cons (em_var 0 (pv 0)) (am_cons (em_var 5 (pv 5)) (am_cons (em_var 2 (pv 2)) am_nil))))) (ss_one (sm_set (i:=3) nd rfl (Or.inl rfl) (em_var 5 (pv 5)))) ss_nil))))
      (ss_one (sm_retV 3 (pv 3))))))
noncomputable abbrev s_first_strike:Stmt:=top 22
noncomputable def N_first_strike:List Str:=["book","guesses","within","guess"]
theorem ok_first_strike {P:Program} {w:World} {K:PySem.W.Frag} {mg:Str→Option Value} {base:Heap} {f:Addr} {fd:FuncData} (T:Txt mg) (c_places:Cal P w K mg base 1 "places" 1 r_places) (c_a_reason:Cal P w K mg base 5 "a_reason" 3 r_a_reason) (F:Fun K "first_strike" "first_strike" s_first_strike f fd):FnOk P w K mg base CX0 6 f fd ["book","guesses","within"] (spM K 3 r_first_strike):=by
  have sc:FnScope N_first_strike ["book","guesses","within"] (defScope s_first_strike):=⟨rfl,rfl,rfl,by decide +kernel,rfl,by decide +kernel,by decide +kernel⟩
  have nd:=sc.nd
  refine fnM (N:=N_first_strike) (k:=5) F sc rfl fun cdv A outer s H E hr => ?_
  exact (ss_cons (sm_set (i:=3) nd rfl (Or.inl rfl) (em_ix im_ix (em_cal c_places r_places_len (hr.mono (by decide)) (by rfl) (am_cons (em_var 1 (pv 1)) am_nil)) em_int (fun _ _=>rfl)))
      (ss_one (sm_ret (em_tup (am_cons (em_var 3 (pv 3)) (am_cons (em_cal c_a_reason r_a_reason_len (hr.mono (by decide)) (by rfl) (am_cons (em_var 0 (pv 0)) (am_cons (em_var 2 (pv 2)) (am_cons (em_ix im_ix (em_ix im_ix (em_var 0 (pv 0)) em_int (fun _ _=>rfl)) (em_var 3 (pv 3)) (fun _ _=>rfl)) am_nil)))) am_nil))))))
noncomputable abbrev s_reply:Stmt:=top 27
noncomputable def N_reply:List Str:=["book","guess","striker","sets","rank","below"]
theorem ok_reply {P:Program} {w:World} {K:PySem.W.Frag} {mg:Str→Option Value} {base:Heap} {f:Addr} {fd:FuncData} (T:Txt mg) (c_struck:Cal P w K mg base 4 "struck" 2 r_struck) (c_rounds:Cal P w K mg base 7 "rounds" 1 r_rounds) (c_rank_in:Cal P w K mg base 2 "rank_in" 2 r_rank_in) (c_places:Cal P w K mg base 1 "places" 1 r_places) (c_first_strike:Cal P w K mg base 6 "first_strike" 3 r_first_strike) (F:Fun K "reply" "reply" s_reply f fd):FnOk P w K mg base CX0 8 f fd ["book","guess","striker"] (spM K 3 r_reply):=by
  have sc:FnScope N_reply ["book","guess","striker"] (defScope s_reply):=⟨rfl,rfl,rfl,by decide +kernel,rfl,by decide +kernel,by decide +kernel⟩
  have nd:=sc.nd
  refine fnM (N:=N_reply) (k:=7) F sc rfl fun cdv A outer s H E hr => ?_
  exact (ss_cons (sm_if (tm_cmp (om_notIn hr.units) (em_var 1 (pv 1)) (em_cal c_places r_places_len (hr.mono (by decide)) (by rfl) (am_cons (em_cal c_struck r_struck_len (hr.mono (by decide)) (by rfl) (am_cons (em_var 0 (pv 0)) (am_cons (em_var 2 (pv 2)) am_nil))) am_nil)) (by with_unfolding_all rfl)) (ss_one (sm_ret em_non)) ss_nil)
      (ss_cons (sm_set (i:=3) nd rfl (Or.inl rfl) (em_cal c_rounds r_rounds_len (hr.mono (by decide)) (by rfl) (am_cons (em_var 0 (pv 0)) am_nil)))
      (ss_cons (sm_set (i:=4) nd rfl (Or.inl rfl) (em_cal c_rank_in r_rank_in_len (hr.mono (by decide)) (by rfl) (am_cons (em_var 3 (pv 3)) (am_cons (em_var 1 (pv 1)) am_nil))))
      (ss_cons (sm_if (tm_cmp om_is (em_var 4 (pv 4)) em_non (nomark _)) (ss_one (sm_ret em_non)) ss_nil)
      (ss_cons (sm_set (i:=5) nd rfl (Or.inl rfl) (em_ix im_ix (em_var 3 (pv 3)) (em_op om_sub (em_var 4 (pv 4)) em_int) (fun _ _=>rfl)))
      (ss_one (sm_ret (em_cal c_first_strike r_first_strike_len (hr.mono (by decide)) (by rfl) (am_cons (em_var 0 (pv 0)) (am_cons (em_op om_and (em_var 2 (pv 2)) (em_cal c_struck r_struck_len (hr.mono (by decide)) (by rfl) (am_cons (em_var 0 (pv 0)) (am_cons (em_var 5 (pv 5)) am_nil)))) (am_cons (em_var 5 (pv 5)) am_nil)))))))))))
noncomputable abbrev s_Talk___init__:Stmt:=inClass (top 28) 0
noncomputable def N_Talk___init__:List Str:=["self","book","held"]
theorem ok_Talk___init__ {P:Program} {w:World} {K:PySem.W.Frag} {mg:Str→Option Value} {base:Heap} {f:Addr} {fd:FuncData} (T:Txt mg) {C:Addr} (W:TFld K C)  (F:Fun K "__init__" "Talk.__init__" s_Talk___init__ f fd):FnOk P w K mg base CX0 1 f fd ["self","book","held"] (spX K (ObjG K C "moves") 3 (r_Talk___init__ C)):=by
  have sc:FnScope N_Talk___init__ ["self","book","held"] (defScope s_Talk___init__):=⟨rfl,rfl,rfl,by decide +kernel,rfl,by decide +kernel,by decide +kernel⟩
  have nd:=sc.nd
  refine fnX (N:=N_Talk___init__) (k:=0) F sc rfl fun cdv A outer s H E hr => ?_
  exact (xs_cons (xm_fs (pv 0) W.fl_book (em_var 1 (pv 1)))
      (xs_cons (xm_fs (pv 0) W.fl_held (em_var 2 (pv 2)))
      (xs_cons (xm_fs (pv 0) W.fl_unanswered em_non)
      (xs_one (xm_fn (pv 0) W.fl_moves (eo_lst am_nil))))))
noncomputable abbrev s__law_tops:Stmt:=top 39
noncomputable def N__law_tops:List Str:=["ranks","held"]
theorem ok__law_tops {P:Program} {w:World} {K:PySem.W.Frag} {mg:Str→Option Value} {base:Heap} {f:Addr} {fd:FuncData} (T:Txt mg)  (F:Fun K "_law_tops" "_law_tops" s__law_tops f fd):FnOk P w K mg base CX0 1 f fd ["ranks","held"] (spM K 2 r__law_tops):=by
  have sc:FnScope N__law_tops ["ranks","held"] (defScope s__law_tops):=⟨rfl,rfl,rfl,by decide +kernel,rfl,by decide +kernel,by decide +kernel⟩
  have nd:=sc.nd
  refine fnM (N:=N__law_tops) (k:=0) F sc rfl fun cdv A outer s H E hr => ?_
  exact (ss_one (sm_ret (em_callB (cm_maxL rfl) (by rfl) T.b_max (by kernel_rfl) (am_cons (EO.em (eo_op oo_cat (EO.em (eo_lst (am_int am_nil))) (EO.em (eo_comp (X:=(cxOf CX0 P w K mg base N__law_tops "_law_tops" (defScope s__law_tops) f cdv A outer s H E).nox) (N':=["k","held","ranks"]) (nt:=1) (caps:=[1,0]) (ts:=[0]) (ns:=([1,0]++[])) (ls:=[2,0]) rfl (ck_of (N:=N__law_tops) (osc:=(defScope s__law_tops)) rfl rfl (by decide +kernel)) (by decide) (noOw_gSet _) (im_range1 (by rfl) T.b_range (am_cons (em_callB cm_len (by rfl) T.b_len PySem.boot_len (am_cons (em_var 0 (pv 0)) am_nil)) am_nil)) (fun _ _ _ _ _ _=>(gm_name (pg_name (i:=0) (show (["k","held","ranks"]:List Str).Nodup by decide +kernel) rfl (Or.inl rfl)))) (fun _ _ _ _ _ _=>(if_one (tm_cmp (om_eq (by exact hr.units)) (em_op om_and (em_op om_shr (em_var 1 (pv 1)) (em_var 0 (pv 0))) em_int) em_int (nomark _)))) (fun _ _ _ _ _ _=>(em_ix im_ix (em_var 2 (pv 2)) (em_var 0 (pv 0)) (fun _ _=>rfl))))))) am_nil))))
noncomputable abbrev s__law_struck_by:Stmt:=top 40
noncomputable def N__law_struck_by:List Str:=["book","guess","cell","striker"]
theorem ok__law_struck_by {P:Program} {w:World} {K:PySem.W.Frag} {mg:Str→Option Value} {base:Heap} {f:Addr} {fd:FuncData} (T:Txt mg) (c__law_yields:Cal P w K mg base 1 "_law_yields" 2 r__law_yields) (F:Fun K "_law_struck_by" "_law_struck_by" s__law_struck_by f fd):FnOk P w K mg base CX0 2 f fd ["book","guess","cell"] (spM K 3 r__law_struck_by):=by
  have sc:FnScope N__law_struck_by ["book","guess","cell"] (defScope s__law_struck_by):=⟨rfl,rfl,rfl,by decide +kernel,rfl,by decide +kernel,by decide +kernel⟩
  have nd:=sc.nd
  refine fnM (N:=N__law_struck_by) (k:=1) F sc rfl fun cdv A outer s H E hr => ?_
  exact (ss_cons (sm_set (i:=3) nd rfl (Or.inl rfl) (em_op om_mod (em_var 2 (pv 2)) (em_op om_shl em_int (em_callB cm_len (by rfl) T.b_len PySem.boot_len (am_cons (em_ix im_ix (em_var 0 (pv 0)) em_int (fun _ _=>rfl)) am_nil)))))
      (ss_cons (sm_if (tm_cmp (om_notIn hr.units) (em_ix im_ix (em_ix im_ix (em_var 0 (pv 0)) em_int (fun _ _=>rfl)) (em_var 1 (pv 1)) (fun _ _=>rfl)) (em_cal c__law_yields r__law_yields_len (hr.mono (by decide)) (by rfl) (am_cons (em_var 0 (pv 0)) (am_cons (em_var 3 (pv 3)) am_nil))) (by with_unfolding_all rfl)) (ss_one (sm_ret (em_op om_sub (em_op om_shl em_int (em_callB cm_len (by rfl) T.b_len PySem.boot_len (am_cons (em_ix im_ix (em_var 0 (pv 0)) em_int (fun _ _=>rfl)) am_nil))) em_int))) ss_nil)
      (ss_one (sm_retV 3 (pv 3)))))
noncomputable abbrev s_Talk_turn:Stmt:=inClass (top 28) 1
noncomputable def N_Talk_turn:List Str:=["self"]
theorem ok_Talk_turn {P:Program} {w:World} {K:PySem.W.Frag} {mg:Str→Option Value} {base:Heap} {f:Addr} {fd:FuncData} (T:Txt mg) {C:Addr} (W:TFld K C)  (F:Fun K "turn" "Talk.turn" s_Talk_turn f fd):FnOk P w K mg base CX0 1 f fd ["self"] (spM K 1 (r_Talk_turn C)):=by
  have sc:FnScope N_Talk_turn ["self"] (defScope s_Talk_turn):=⟨rfl,rfl,rfl,by decide +kernel,rfl,by decide +kernel,by decide +kernel⟩
  have nd:=sc.nd
  refine fnM (N:=N_Talk_turn) (k:=0) F sc rfl fun cdv A outer s H E hr => ?_
  exact (ss_one (sm_ret (em_if (tm_cmp om_is (em_fl (em_var 0 (pv 0)) W.fl_unanswered) em_non (nomark _)) em_str em_str)))
noncomputable abbrev s_Talk_aims:Stmt:=inClass (top 28) 6
noncomputable def N_Talk_aims:List Str:=["self"]
theorem ok_Talk_aims {P:Program} {w:World} {K:PySem.W.Frag} {mg:Str→Option Value} {base:Heap} {f:Addr} {fd:FuncData} (T:Txt mg) {C:Addr} (W:TFld K C)  (F:Fun K "aims" "Talk.aims" s_Talk_aims f fd):FnOk P w K mg base CX0 1 f fd ["self"] (spM K 1 (r_Talk_aims C)):=by
  have sc:FnScope N_Talk_aims ["self"] (defScope s_Talk_aims):=⟨rfl,rfl,rfl,by decide +kernel,rfl,by decide +kernel,by decide +kernel⟩
  have nd:=sc.nd
  refine fnM (N:=N_Talk_aims) (k:=0) F sc rfl fun cdv A outer s H E hr => ?_
  exact (ss_one (sm_ret (em_if (tm_cmp om_is (em_fl (em_var 0 (pv 0)) W.fl_unanswered) em_non (nomark _)) (em_fl (em_var 0 (pv 0)) W.fl_held) (em_ix im_ix (em_fl (em_var 0 (pv 0)) W.fl_unanswered) em_int (fun _ _=>rfl)))))
noncomputable abbrev s_Talk_can_name:Stmt:=inClass (top 28) 7
noncomputable def N_Talk_can_name:List Str:=["self","guess","striker"]
theorem ok_Talk_can_name {P:Program} {w:World} {K:PySem.W.Frag} {mg:Str→Option Value} {base:Heap} {f:Addr} {fd:FuncData} (T:Txt mg) {C:Addr} (W:TFld K C) (c_struck:Cal P w K mg base 4 "struck" 2 r_struck) (c_places:Cal P w K mg base 1 "places" 1 r_places) (c_Talk_aims:CalMt P w K mg base 1 C "aims" 1 (r_Talk_aims C)) (F:Fun K "can_name" "Talk.can_name" s_Talk_can_name f fd):FnOk P w K mg base CX0 5 f fd ["self","guess","striker"] (spM K 3 (r_Talk_can_name C)):=by
  have sc:FnScope N_Talk_can_name ["self","guess","striker"] (defScope s_Talk_can_name):=⟨rfl,rfl,rfl,by decide +kernel,rfl,by decide +kernel,by decide +kernel⟩
  have nd:=sc.nd
  refine fnM (N:=N_Talk_can_name) (k:=4) F sc rfl fun cdv A outer s H E hr => ?_
  exact (ss_one (sm_ret (em_cmp (om_in hr.units) (em_var 1 (pv 1)) (em_cal c_places r_places_len (hr.mono (by decide)) (by rfl) (am_cons (em_op om_and (em_mtd0 (em_var 0 (pv 0)) c_Talk_aims (r_Talk_aims_len C) (hr.mono (by decide))) (em_cal c_struck r_struck_len (hr.mono (by decide)) (by rfl) (am_cons (em_fl (em_var 0 (pv 0)) W.fl_book) (am_cons (em_var 2 (pv 2)) am_nil)))) am_nil)) (by with_unfolding_all rfl))))
noncomputable abbrev s_Talk_doubted:Stmt:=inClass (top 28) 8
noncomputable def N_Talk_doubted:List Str:=["self","guess","striker"]
theorem ok_Talk_doubted {P:Program} {w:World} {K:PySem.W.Frag} {mg:Str→Option Value} {base:Heap} {f:Addr} {fd:FuncData} (T:Txt mg) {C:Addr} (W:TFld K C) (c_Talk_turn:CalMt P w K mg base 1 C "turn" 1 (r_Talk_turn C)) (c_Talk_can_name:CalMt P w K mg base 5 C "can_name" 3 (r_Talk_can_name C)) (F:Fun K "doubted" "Talk.doubted" s_Talk_doubted f fd):FnOk P w K mg base CX0 6 f fd ["self","guess","striker"] (spX K (ObjG K C "moves") 3 (r_Talk_doubted C)):=by
  have sc:FnScope N_Talk_doubted ["self","guess","striker"] (defScope s_Talk_doubted):=⟨rfl,rfl,rfl,by decide +kernel,rfl,by decide +kernel,by decide +kernel⟩
  have nd:=sc.nd
  refine fnX (N:=N_Talk_doubted) (k:=5) F sc rfl fun cdv A outer s H E hr => ?_
  exact (xs_cons (xm_ifA (reads_obj _ _ _) (tm_cmp (om_ne hr.units) (em_mtd0 (em_var 0 (pv 0)) c_Talk_turn (r_Talk_turn_len C) (hr.mono (by decide))) em_str (nomark _)) (xs_lift (objG_mono _ _ _) (ss_one sm_no)) xs_nil)
      (xs_cons (xm_ifA (reads_obj _ _ _) (tm_not (tm_truth (em_mtd (em_var 0 (pv 0)) c_Talk_can_name (r_Talk_can_name_len C) (hr.mono (by decide)) (am_cons (em_var 1 (pv 1)) (am_cons (em_var 2 (pv 2)) am_nil))))) (xs_lift (objG_mono _ _ _) (ss_one sm_no)) xs_nil)
      (xs_cons (xm_fs (pv 0) W.fl_unanswered (em_tup (am_cons (em_var 1 (pv 1)) (am_cons (em_var 2 (pv 2)) am_nil))))
      (xs_one (xm_fa (pv 0) W.fl_moves (ps_expr (pe_bm PySem.F.plainAttrs_list PySem.F.slot_list_append PySem.F.type_list_append mt_append (pe_fld (pv 0) rfl) (am_cons' (em_tup (am_cons em_str (am_cons (em_var 1 (pv 1)) (am_cons (em_var 2 (pv 2)) am_nil))))))))))))
noncomputable abbrev s_Talk_replied:Stmt:=inClass (top 28) 9
noncomputable def N_Talk_replied:List Str:=["self","guess","striker"]
theorem ok_Talk_replied {P:Program} {w:World} {K:PySem.W.Frag} {mg:Str→Option Value} {base:Heap} {f:Addr} {fd:FuncData} (T:Txt mg) {C:Addr} (W:TFld K C) (c_Talk_turn:CalMt P w K mg base 1 C "turn" 1 (r_Talk_turn C)) (c_Talk_can_name:CalMt P w K mg base 5 C "can_name" 3 (r_Talk_can_name C)) (F:Fun K "replied" "Talk.replied" s_Talk_replied f fd):FnOk P w K mg base CX0 6 f fd ["self","guess","striker"] (spX K (ObjG K C "moves") 3 (r_Talk_replied C)):=by
  have sc:FnScope N_Talk_replied ["self","guess","striker"] (defScope s_Talk_replied):=⟨rfl,rfl,rfl,by decide +kernel,rfl,by decide +kernel,by decide +kernel⟩
  have nd:=sc.nd
  refine fnX (N:=N_Talk_replied) (k:=5) F sc rfl fun cdv A outer s H E hr => ?_
  exact (xs_cons (xm_ifA (reads_obj _ _ _) (tm_cmp (om_ne hr.units) (em_mtd0 (em_var 0 (pv 0)) c_Talk_turn (r_Talk_turn_len C) (hr.mono (by decide))) em_str (nomark _)) (xs_lift (objG_mono _ _ _) (ss_one sm_no)) xs_nil)
      (xs_cons (xm_ifA (reads_obj _ _ _) (tm_not (tm_truth (em_mtd (em_var 0 (pv 0)) c_Talk_can_name (r_Talk_can_name_len C) (hr.mono (by decide)) (am_cons (em_var 1 (pv 1)) (am_cons (em_var 2 (pv 2)) am_nil))))) (xs_lift (objG_mono _ _ _) (ss_one sm_no)) xs_nil)
      (xs_cons (xm_fs (pv 0) W.fl_held (em_var 2 (pv 2)))
      (xs_cons (xm_fs (pv 0) W.fl_unanswered em_non)
      (xs_one (xm_fa (pv 0) W.fl_moves (ps_expr (pe_bm PySem.F.plainAttrs_list PySem.F.slot_list_append PySem.F.type_list_append mt_append (pe_fld (pv 0) rfl) (am_cons' (em_tup (am_cons em_str (am_cons (em_var 1 (pv 1)) (am_cons (em_var 2 (pv 2)) am_nil)))))))))))))
noncomputable abbrev s_Talk_winner:Stmt:=inClass (top 28) 4
noncomputable def N_Talk_winner:List Str:=["self"]
theorem ok_Talk_winner {P:Program} {w:World} {K:PySem.W.Frag} {mg:Str→Option Value} {base:Heap} {f:Addr} {fd:FuncData} (T:Txt mg) {C:Addr} (W:TFld K C) (c_all_guesses:Cal P w K mg base 1 "all_guesses" 1 r_all_guesses) (c_struck:Cal P w K mg base 4 "struck" 2 r_struck) (c_Talk_turn:CalMt P w K mg base 1 C "turn" 1 (r_Talk_turn C)) (c_Talk_aims:CalMt P w K mg base 1 C "aims" 1 (r_Talk_aims C)) (F:Fun K "winner" "Talk.winner" s_Talk_winner f fd):FnOk P w K mg base CX0 5 f fd ["self"] (spM K 1 (r_Talk_winner C)):=by
  have sc:FnScope N_Talk_winner ["self"] (defScope s_Talk_winner):=⟨rfl,rfl,rfl,by decide +kernel,rfl,by decide +kernel,by decide +kernel⟩
  have nd:=sc.nd
  refine fnM (N:=N_Talk_winner) (k:=4) F sc rfl fun cdv A outer s H E hr => ?_
  exact (ss_cons (sm_if (tm_truth (em_op om_and (em_mtd0 (em_var 0 (pv 0)) c_Talk_aims (r_Talk_aims_len C) (hr.mono (by decide))) (em_cal c_struck r_struck_len (hr.mono (by decide)) (by rfl) (am_cons (em_fl (em_var 0 (pv 0)) W.fl_book) (am_cons (em_cal c_all_guesses r_all_guesses_len (hr.mono (by decide)) (by rfl) (am_cons (em_fl (em_var 0 (pv 0)) W.fl_book) am_nil)) am_nil))))) (ss_one (sm_ret em_non)) ss_nil)
      (ss_one (sm_ret (em_if (tm_cmp (om_eq hr.units) (em_mtd0 (em_var 0 (pv 0)) c_Talk_turn (r_Talk_turn_len C) (hr.mono (by decide))) em_str (nomark _)) em_str em_str))))
noncomputable abbrev s__law_reason:Stmt:=top 37
noncomputable def N__law_reason:List Str:=["book","held","word","k"]
theorem ok__law_reason {P:Program} {w:World} {K:PySem.W.Frag} {mg:Str→Option Value} {base:Heap} {f:Addr} {fd:FuncData} (T:Txt mg) (c__law_yields:Cal P w K mg base 1 "_law_yields" 2 r__law_yields) (F:Fun K "_law_reason" "_law_reason" s__law_reason f fd):FnOk P w K mg base CX0 2 f fd ["book","held","word"] (spM K 3 r__law_reason):=by
  have sc:FnScope N__law_reason ["book","held","word"] (defScope s__law_reason):=⟨rfl,rfl,rfl,by decide +kernel,rfl,by decide +kernel,by decide +kernel⟩
  have nd:=sc.nd
  refine fnM (N:=N__law_reason) (k:=1) F sc rfl fun cdv A outer s H E hr => ?_
  exact (ss_cons (sm_if (tm_cmp (om_notIn hr.units) (em_var 2 (pv 2)) (em_cal c__law_yields r__law_yields_len (hr.mono (by decide)) (by rfl) (am_cons (em_var 0 (pv 0)) (am_cons (em_var 1 (pv 1)) am_nil))) (by with_unfolding_all rfl)) (ss_one (sm_ret em_bl)) ss_nil)
      (ss_cons (sm_forR PassesOwn.never rfl (imr_range1 (by rfl) T.b_range (am_cons (em_callB cm_len (by rfl) T.b_len PySem.boot_len (am_cons (em_ix im_ix (em_var 0 (pv 0)) em_int (fun _ _=>rfl)) am_nil)) am_nil)) (gm_name (pg_name (i:=3) nd rfl (Or.inl rfl))) (ss_one (sm_if (WM.tm (wm_and (tm_cmp (om_eq hr.units) (em_op om_and (em_op om_shr (em_var 1 (pv 1)) (em_var 3 (pv 3))) em_int) em_int (nomark _)) (wm_and1 (tm_cmp (om_in hr.units) (em_var 2 (pv 2)) (em_cal c__law_yields r__law_yields_len (hr.mono (by decide)) (by rfl) (am_cons (em_var 0 (pv 0)) (am_cons (em_op om_sub (em_var 1 (pv 1)) (em_op om_shl em_int (em_var 3 (pv 3)))) am_nil))) (by with_unfolding_all rfl))))) (ss_one (sm_ret em_bl)) ss_nil)))
      (ss_one (sm_ret em_bl))))
noncomputable abbrev s__law_good:Stmt:=top 38
noncomputable def N__law_good:List Str:=["book","ranks","guess","striker","told","part","k"]
theorem ok__law_good {P:Program} {w:World} {K:PySem.W.Frag} {mg:Str→Option Value} {base:Heap} {f:Addr} {fd:FuncData} (T:Txt mg) (c__law_reason:Cal P w K mg base 2 "_law_reason" 3 r__law_reason) (F:Fun K "_law_good" "_law_good" s__law_good f fd):FnOk P w K mg base CX0 3 f fd ["book","ranks","guess","striker","told"] (spM K 5 r__law_good_2):=by
  have sc:FnScope N__law_good ["book","ranks","guess","striker","told"] (defScope s__law_good):=⟨rfl,rfl,rfl,by decide +kernel,rfl,by decide +kernel,by decide +kernel⟩
  have nd:=sc.nd
  refine fnM (N:=N__law_good) (k:=2) F sc rfl fun cdv A outer s H E hr => ?_
  exact (ss_cons (sm_if (WM.tm (wm_or (tm_not (tm_truth (em_isinst (x := "tuple") isi_tup (em_var 4 (pv 4)) (by rfl) T.b_isinstance (by rfl) T.b_tuple (by kernel_rfl)))) (wm_or1 (tm_cmp (om_ne hr.units) (em_callB cm_len (by rfl) T.b_len PySem.boot_len (am_cons (em_var 4 (pv 4)) am_nil)) em_int (nomark _))))) (ss_one (sm_ret em_bl)) ss_nil)
      (ss_cons (sm_for PassesOwn.never rfl (im_tup (em_var 4 (pv 4))) (gm_name (pg_name (i:=5) nd rfl (Or.inl rfl))) (ss_one (sm_if (WM.tm (wm_or (tm_not (tm_truth (em_isinst (x := "int") isi_int (em_var 5 (pv 5)) (by rfl) T.b_isinstance (by rfl) T.b_int (by kernel_rfl)))) (wm_or (tm_truth (em_isinst (x := "bool") isi_bl (em_var 5 (pv 5)) (by rfl) T.b_isinstance (by rfl) T.b_bool (by kernel_rfl))) (wm_or1 (tm_cmp om_lt (em_var 5 (pv 5)) em_int (nomark _)))))) (ss_one (sm_ret em_bl)) ss_nil)))
      (ss_cons (sm_if (WM.tm (wm_or (tm_cmp om_ge (em_ix im_ix (em_var 4 (pv 4)) em_int (fun _ _=>rfl)) (em_callB cm_len (by rfl) T.b_len PySem.boot_len (am_cons (em_var 1 (pv 1)) am_nil)) (nomark _)) (wm_or (tm_cmp (om_eq hr.units) (em_op om_and (em_op om_shr (em_var 3 (pv 3)) (em_ix im_ix (em_var 4 (pv 4)) em_int (fun _ _=>rfl))) em_int) em_int (nomark _)) (wm_or1 (tm_cmp om_ge (em_ix im_ix (em_var 4 (pv 4)) em_int (fun _ _=>rfl)) (em_op om_shl em_int (em_callB cm_len (by rfl) T.b_len PySem.boot_len (am_cons (em_var 1 (pv 1)) am_nil))) (nomark _)))))) (ss_one (sm_ret em_bl)) ss_nil)
      (ss_cons (sm_forR PassesOwn.never rfl (imr_range1 (by rfl) T.b_range (am_cons (em_callB cm_len (by rfl) T.b_len PySem.boot_len (am_cons (em_var 1 (pv 1)) am_nil)) am_nil)) (gm_name (pg_name (i:=6) nd rfl (Or.inl rfl))) (ss_one (sm_if (WM.tm (wm_and (tm_cmp (om_eq hr.units) (em_op om_and (em_op om_shr (em_ix im_ix (em_var 4 (pv 4)) em_int (fun _ _=>rfl)) (em_var 6 (pv 6))) em_int) em_int (nomark _)) (wm_and1 (WM.tm (wm_or (tm_cmp (om_eq hr.units) (em_ix im_ix (em_var 1 (pv 1)) (em_var 6 (pv 6)) (fun _ _=>rfl)) em_int (nomark _)) (wm_or1 (tm_cmp om_ge (em_ix im_ix (em_var 1 (pv 1)) (em_var 6 (pv 6)) (fun _ _=>rfl)) (em_ix im_ix (em_var 1 (pv 1)) (em_var 2 (pv 2)) (fun _ _=>rfl)) (nomark _)))))))) (ss_one (sm_ret em_bl)) ss_nil)))
      (ss_one (sm_ret (em_cal c__law_reason r__law_reason_len (hr.mono (by decide)) (by rfl) (am_cons (em_var 0 (pv 0)) (am_cons (em_ix im_ix (em_var 4 (pv 4)) em_int (fun _ _=>rfl)) (am_cons (em_ix im_ix (em_ix im_ix (em_var 0 (pv 0)) em_int (fun _ _=>rfl)) (em_ix im_ix (em_var 4 (pv 4)) em_int (fun _ _=>rfl)) (fun _ _=>rfl)) am_nil))))))))))
noncomputable abbrev s_Talk_now:Stmt:=inClass (top 28) 2
noncomputable def N_Talk_now:List Str:=["self"]
theorem ok_Talk_now {P:Program} {w:World} {K:PySem.W.Frag} {mg:Str→Option Value} {base:Heap} {f:Addr} {fd:FuncData} (T:Txt mg) {C:Addr} (W:TFld K C)  (F:Fun K "now" "Talk.now" s_Talk_now f fd):FnOk P w K mg base CX0 1 f fd ["self"] (spM K 1 (r_Talk_now C)):=by
  have sc:FnScope N_Talk_now ["self"] (defScope s_Talk_now):=⟨rfl,rfl,rfl,by decide +kernel,rfl,by decide +kernel,by decide +kernel⟩
  have nd:=sc.nd
  refine fnM (N:=N_Talk_now) (k:=0) F sc rfl fun cdv A outer s H E hr => ?_
  exact (ss_one (sm_ret (em_fl (em_var 0 (pv 0)) W.fl_held)))
noncomputable abbrev s__law_won:Stmt:=top 41
noncomputable def N__law_won:List Str:=["book","ranks","held","cells","most","talk","k","spots","cell","guess","striker","told"]
theorem ok__law_won {P:Program} {w:World} {K:PySem.W.Frag} {mg:Str→Option Value} {base:Heap} {f:Addr} {fd:FuncData} (T:Txt mg) {C:Addr} (W:TFld K C) (c__law_cell_at:Cal P w K mg base 1 "_law_cell_at" 2 r__law_cell_at) (c__law_yields:Cal P w K mg base 1 "_law_yields" 2 r__law_yields) (c_reply:Cal P w K mg base 8 "reply" 3 r_reply) (c_Talk___init__:CalMk P w K mg base 1 C "moves" "Talk" 3 (r_Talk___init__ C)) (c__law_tops:Cal P w K mg base 1 "_law_tops" 2 r__law_tops) (c__law_struck_by:Cal P w K mg base 2 "_law_struck_by" 3 r__law_struck_by) (c_Talk_turn:CalMt P w K mg base 1 C "turn" 1 (r_Talk_turn C)) (c_Talk_doubted:CalX P w K mg base 6 C "moves" "doubted" 3 (r_Talk_doubted C)) (c_Talk_replied:CalX P w K mg base 6 C "moves" "replied" 3 (r_Talk_replied C)) (c_Talk_winner:CalMt P w K mg base 5 C "winner" 1 (r_Talk_winner C)) (c__law_good:Cal P w K mg base 3 "_law_good" 5 r__law_good_2) (c_Talk_now:CalMt P w K mg base 1 C "now" 1 (r_Talk_now C)) (F:Fun K "_law_won" "_law_won" s__law_won f fd):FnOk P w K mg base CX0 9 f fd ["book","ranks","held","cells"] (spM K 4 (r__law_won C)):=by
  have sc:FnScope N__law_won ["book","ranks","held","cells"] (defScope s__law_won):=⟨rfl,rfl,rfl,by decide +kernel,rfl,by decide +kernel,by decide +kernel⟩
  have nd:=sc.nd
  refine fnM (N:=N__law_won) (k:=8) F sc rfl fun cdv A outer s H E hr => ?_
  exact (ss_cons (sm_set (i:=4) nd rfl (Or.inr rfl) (em_cal c__law_yields r__law_yields_len (hr.mono (by decide)) (by rfl) (am_cons (em_var 0 (pv 0)) (am_cons (em_op om_sub (em_op om_shl em_int (em_callB cm_len (by rfl) T.b_len PySem.boot_len (am_cons (em_var 1 (pv 1)) am_nil))) em_int) am_nil))))
      (ss_mk (j:=5) nd rfl (Or.inl rfl) c_Talk___init__ (r_Talk___init___len C) (hr.mono (by decide)) (by rfl) (am_cons (em_var 0 (pv 0)) (am_cons (em_var 2 (pv 2)) am_nil)) (xs_cons (xm_forR (objG_mono _ _ _) PassesOwn.never rfl (imr_range1 (by rfl) T.b_range (am_cons (em_cal c__law_tops r__law_tops_len (hr.mono (by decide)) (by rfl) (am_cons (em_var 1 (pv 1)) (am_cons (em_var 2 (pv 2)) am_nil))) am_nil)) (gm_name (pg_name (i:=6) nd rfl (Or.inl rfl))) (xs_cons (xm_lift (objG_mono _ _ _) (sm_setcomp (i:=7) nd rfl rfl (N':=["g","held","book","most"]) (nt:=1) (caps:=[2,0,4]) (ts:=[0]) (ns:=(([1,0]++[])++([2,0]++[3]))) (ls:=[0]) rfl (ck_of (N:=N__law_won) (osc:=(defScope s__law_won)) rfl rfl (by decide +kernel)) (by decide) (noOw_gSet _) (im_range1 (by rfl) T.b_range (am_cons (em_callB cm_len (by rfl) T.b_len PySem.boot_len (am_cons (em_var 1 (pv 1)) am_nil)) am_nil)) (fun _ _ _ _ _ _=>(gm_name (pg_name (i:=0) (show (["g","held","book","most"]:List Str).Nodup by decide +kernel) rfl (Or.inl rfl)))) (fun _ _ _ _ _ _=>(if_one (WM.tm (wm_and (tm_cmp (om_eq (by exact hr.units)) (em_op om_and (em_op om_shr (em_var 1 (pv 1)) (em_var 0 (pv 0))) em_int) em_int (nomark _)) (wm_and1 (tm_cmp (om_in (by exact hr.units)) (em_ix im_ix (em_ix im_ix (em_var 2 (pv 2)) em_int (fun _ _=>rfl)) (em_var 0 (pv 0)) (fun _ _=>rfl)) (em_var 3 (pv 3)) (by with_unfolding_all rfl))))))) (fun _ _ _ _ _ _=>(em_var 0 (pv 0)))))
      (xs_cons (xm_lift (objG_mono _ _ _) (sm_if (tm_cmp (om_eq hr.units) (em_var 7 (pv 7)) (EO.em (eo_lst am_nil)) (nomark _)) (ss_one sm_break) ss_nil))
      (xs_cons (xm_lift (objG_mono _ _ _) (sm_set (i:=8) nd rfl (Or.inl rfl) (em_cal c__law_cell_at r__law_cell_at_len (hr.mono (by decide)) (by rfl) (am_cons (em_var 3 (pv 3)) (am_cons (em_var 6 (pv 6)) am_nil)))))
      (xs_cons (xm_lift (objG_mono _ _ _) (sm_set (i:=9) nd rfl (Or.inl rfl) (em_ix im_ix (em_var 7 (pv 7)) (em_op om_mod (em_var 8 (pv 8)) (em_callB cm_len (by rfl) T.b_len PySem.boot_len (am_cons (em_var 7 (pv 7)) am_nil))) (fun _ _=>rfl))))
      (xs_cons (xm_lift (objG_mono _ _ _) (sm_set (i:=10) nd rfl (Or.inl rfl) (em_cal c__law_struck_by r__law_struck_by_len (hr.mono (by decide)) (by rfl) (am_cons (em_var 0 (pv 0)) (am_cons (em_var 9 (pv 9)) (am_cons (em_op om_div (em_var 8 (pv 8)) em_int) am_nil))))))
      (xs_cons (xm_lift (objG_mono _ _ _) (sm_set (i:=11) nd rfl (Or.inl rfl) (em_cal c_reply r_reply_len (hr.mono (by decide)) (by rfl) (am_cons (em_var 0 (pv 0)) (am_cons (em_var 9 (pv 9)) (am_cons (em_var 10 (pv 10)) am_nil))))))
      (xs_cons (xm_lift (objG_mono _ _ _) (sm_if (tm_not (tm_truth (em_cal c__law_good r__law_good_2_len (hr.mono (by decide)) (by rfl) (am_cons (em_var 0 (pv 0)) (am_cons (em_var 1 (pv 1)) (am_cons (em_var 9 (pv 9)) (am_cons (em_var 10 (pv 10)) (am_cons (em_var 11 (pv 11)) am_nil)))))))) (ss_one (sm_ret em_bl)) ss_nil))
      (xs_cons (xm_mt (pv 5) c_Talk_doubted (r_Talk_doubted_len C) (hr.mono (by decide)) (am_cons (em_var 9 (pv 9)) (am_cons (em_var 10 (pv 10)) am_nil)))
      (xs_cons (xm_mt (pv 5) c_Talk_replied (r_Talk_replied_len C) (hr.mono (by decide)) (am_cons (em_ix im_ix (em_var 11 (pv 11)) em_int (fun _ _=>rfl)) (am_cons (em_ix im_ix (em_var 11 (pv 11)) em_int (fun _ _=>rfl)) am_nil)))
      (xs_cons (xm_lift (objG_mono _ _ _) (sm_set (i:=2) nd rfl (Or.inr rfl) (em_ix im_ix (em_var 11 (pv 11)) em_int (fun _ _=>rfl))))
      (xs_one (xm_ifA (reads_obj _ _ _) (WM.tm (wm_or (tm_cmp (om_ne hr.units) (em_mtd0 (em_var 5 (pv 5)) c_Talk_now (r_Talk_now_len C) (hr.mono (by decide))) (em_var 2 (pv 2)) (nomark _)) (wm_or1 (tm_cmp (om_ne hr.units) (em_mtd0 (em_var 5 (pv 5)) c_Talk_turn (r_Talk_turn_len C) (hr.mono (by decide))) em_str (nomark _))))) (xs_lift (objG_mono _ _ _) (ss_one (sm_ret em_bl))) xs_nil)))))))))))))
      (xs_one (xm_retA (reads_obj _ _ _) (em_cmp (om_eq hr.units) (em_mtd0 (em_var 5 (pv 5)) c_Talk_winner (r_Talk_winner_len C) (hr.mono (by decide))) em_str (nomark _)))))))
noncomputable abbrev s_law:Stmt:=top 42
noncomputable def N_law:List Str:=["script","guesses","words","cut","book","ranks","k","striker","told","turn","leave","held"]
theorem ok_law {P:Program} {w:World} {K:PySem.W.Frag} {mg:Str→Option Value} {base:Heap} {f:Addr} {fd:FuncData} (T:Txt mg) {C:Addr} (W:TFld K C) (c__law_cell_at:Cal P w K mg base 1 "_law_cell_at" 2 r__law_cell_at) (c__law_book_of:Cal P w K mg base 2 "_law_book_of" 4 r__law_book_of_5) (c__law_yields:Cal P w K mg base 1 "_law_yields" 2 r__law_yields) (c__law_ranks:Cal P w K mg base 3 "_law_ranks" 1 r__law_ranks) (c_reply:Cal P w K mg base 8 "reply" 3 r_reply) (c__law_good:Cal P w K mg base 3 "_law_good" 5 r__law_good_2) (c__law_won:Cal P w K mg base 9 "_law_won" 4 (r__law_won C)) (F:Fun K "law" "law" s_law f fd):FnOk P w K mg base CX0 10 f fd ["script"] (spM K 1 (r_law_k34 C)):=by
  have sc:FnScope N_law ["script"] (defScope s_law):=⟨rfl,rfl,rfl,by decide +kernel,rfl,by decide +kernel,by decide +kernel⟩
  have nd:=sc.nd
  refine fnM (N:=N_law) (k:=9) F sc rfl fun cdv A outer s H E hr => ?_
  exact (ss_cons (sm_set (i:=1) nd rfl (Or.inl rfl) (em_op om_mod (em_cal c__law_cell_at r__law_cell_at_len (hr.mono (by decide)) (by rfl) (am_cons (em_var 0 (pv 0)) (am_int am_nil))) em_int))
      (ss_cons (sm_if (tm_cmp (om_eq hr.units) (em_op om_mod (em_op om_div (em_cal c__law_cell_at r__law_cell_at_len (hr.mono (by decide)) (by rfl) (am_cons (em_var 0 (pv 0)) (am_int am_nil))) em_int) em_int) em_int (nomark _)) (ss_one (sm_set (i:=1) nd rfl (Or.inl rfl) (em_op om_add em_int (em_op om_mod (em_var 1 (pv 1)) em_int)))) ss_nil)
      (ss_cons (sm_set (i:=2) nd rfl (Or.inl rfl) (em_op om_add (em_var 1 (pv 1)) (em_op om_mod (em_op om_add (em_op om_div (em_cal c__law_cell_at r__law_cell_at_len (hr.mono (by decide)) (by rfl) (am_cons (em_var 0 (pv 0)) (am_int am_nil))) em_int) em_int) em_int)))
      (ss_cons (sm_set (i:=3) nd rfl (Or.inl rfl) (em_op om_add em_int (em_op om_mod (em_cal c__law_cell_at r__law_cell_at_len (hr.mono (by decide)) (by rfl) (am_cons (em_var 0 (pv 0)) (am_int am_nil))) em_int)))
      (ss_cons (sm_set (i:=4) nd rfl (Or.inl rfl) (em_cal c__law_book_of r__law_book_of_5_len (hr.mono (by decide)) (by rfl) (am_cons (em_var 0 (pv 0)) (am_cons (em_var 1 (pv 1)) (am_cons (em_var 2 (pv 2)) (am_cons (em_var 3 (pv 3)) am_nil))))))
      (ss_cons (sm_set (i:=5) nd rfl (Or.inr rfl) (em_cal c__law_ranks r__law_ranks_len (hr.mono (by decide)) (by rfl) (am_cons (em_var 4 (pv 4)) am_nil)))
      (ss_cons (sm_forR PassesOwn.never rfl (imr_range1 (by rfl) T.b_range (am_cons (em_var 1 (pv 1)) am_nil)) (gm_name (pg_name (i:=6) nd rfl (Or.inl rfl))) (ss_cons (sm_set (i:=7) nd rfl (Or.inl rfl) (em_op om_mod (em_cal c__law_cell_at r__law_cell_at_len (hr.mono (by decide)) (by rfl) (am_cons (em_var 0 (pv 0)) (am_cons (em_op om_add (em_op om_add (em_var 3 (pv 3)) em_int) (em_var 6 (pv 6))) am_nil))) (em_op om_shl em_int (em_var 1 (pv 1)))))
      (ss_cons (sm_set (i:=8) nd rfl (Or.inl rfl) (em_cal c_reply r_reply_len (hr.mono (by decide)) (by rfl) (am_cons (em_var 4 (pv 4)) (am_cons (em_var 6 (pv 6)) (am_cons (em_var 7 (pv 7)) am_nil)))))
      (ss_one (sm_if (WM.tm (wm_or (tm_cmp (om_eq hr.units) (em_ix im_ix (em_var 5 (pv 5)) (em_var 6 (pv 6)) (fun _ _=>rfl)) em_int (nomark _)) (wm_or1 (tm_cmp (om_notIn hr.units) (em_ix im_ix (em_ix im_ix (em_var 4 (pv 4)) em_int (fun _ _=>rfl)) (em_var 6 (pv 6)) (fun _ _=>rfl)) (em_cal c__law_yields r__law_yields_len (hr.mono (by decide)) (by rfl) (am_cons (em_var 4 (pv 4)) (am_cons (em_var 7 (pv 7)) am_nil))) (by with_unfolding_all rfl))))) (ss_one (sm_if (tm_cmp om_isNot (em_var 8 (pv 8)) em_non (nomark _)) (ss_one (sm_ret em_bl)) ss_nil)) (ss_one (sm_if (tm_not (tm_truth (em_cal c__law_good r__law_good_2_len (hr.mono (by decide)) (by rfl) (am_cons (em_var 4 (pv 4)) (am_cons (em_var 5 (pv 5)) (am_cons (em_var 6 (pv 6)) (am_cons (em_var 7 (pv 7)) (am_cons (em_var 8 (pv 8)) am_nil)))))))) (ss_one (sm_ret em_bl)) ss_nil)))))))
      (ss_cons (sm_forR PassesOwn.never rfl (imr_range1 (by rfl) T.b_range (am_int am_nil)) (gm_name (pg_name (i:=9) nd rfl (Or.inl rfl))) (ss_cons (sm_set (i:=10) nd rfl (Or.inr rfl) (em_op om_div (em_cal c__law_cell_at r__law_cell_at_len (hr.mono (by decide)) (by rfl) (am_cons (em_var 0 (pv 0)) (am_cons (em_op om_add (em_var 3 (pv 3)) (em_op om_mul em_int (em_var 9 (pv 9)))) am_nil))) em_int))
      (ss_cons (sm_set (i:=11) nd rfl (Or.inl rfl) (em_callB (cm_sum rfl) (by rfl) T.b_sum (by kernel_rfl) (am_cons (EO.em (eo_comp (X:=(cxOf CX0 P w K mg base N_law "law" (defScope s_law) f cdv A outer s H E).nox) (N':=["k","ranks","leave"]) (nt:=1) (caps:=[5,10]) (ts:=[0]) (ns:=(([1,0]++[])++([2,0]++[]))) (ls:=[0]) rfl (ck_of (N:=N_law) (osc:=(defScope s_law)) rfl rfl (by decide +kernel)) (by decide) (noOw_gSet _) (im_range1 (by rfl) T.b_range (am_cons (em_var 1 (pv 1)) am_nil)) (fun _ _ _ _ _ _=>(gm_name (pg_name (i:=0) (show (["k","ranks","leave"]:List Str).Nodup by decide +kernel) rfl (Or.inl rfl)))) (fun _ _ _ _ _ _=>(if_one (WM.tm (wm_and (tm_cmp om_gt (em_ix im_ix (em_var 1 (pv 1)) (em_var 0 (pv 0)) (fun _ _=>rfl)) em_int (nomark _)) (wm_and1 (tm_cmp (om_eq (by exact hr.units)) (em_op om_and (em_op om_shr (em_var 2 (pv 2)) (em_var 0 (pv 0))) em_int) em_int (nomark _))))))) (fun _ _ _ _ _ _=>(em_op om_shl em_int (em_var 0 (pv 0)))))) am_nil)))
      (ss_one (sm_if (tm_not (tm_truth (em_cal c__law_won (r__law_won_len C) (hr.mono (by decide)) (by rfl) (am_cons (em_var 4 (pv 4)) (am_cons (em_var 5 (pv 5)) (am_cons (em_var 11 (pv 11)) (am_cons (EO.em (eo_cut (em_var 0 (pv 0)) (om_some (em_op om_add (em_var 3 (pv 3)) (em_op om_mul em_int (em_var 9 (pv 9))))) (om_some (em_op om_add (em_op om_add (em_var 3 (pv 3)) (em_op om_mul em_int (em_var 9 (pv 9)))) em_int)))) am_nil))))))) (ss_one (sm_ret em_bl)) ss_nil)))))
      (ss_one (sm_ret em_bl))))))))))
theorem all_mk {l:PySem.W.OpenLaw} {w:World} {K:PySem.W.Frag} {h:Heap} {mg:Str→Option Value} {fa:Addr} (hlaw:∀ (C:Addr) (ns:List Int),ns.length≤63→r_law_k34 C [.lst (ns.map .int)]=some (.bl true)) (X:K.In h) (G:h.Ns mainGlobals mg) (hfa:mg "law"=some (.ref fa))
    {C:Addr}
    {f0:Addr} {od0 an0:Option Addr} {sl0:Array (Option Value)} {oc0 kV0 dc0 pm0 cd0 ct0:Value}
    {f1:Addr} {od1 an1:Option Addr} {sl1:Array (Option Value)} {oc1 kV1 dc1 pm1 cd1 ct1:Value}
    {f2:Addr} {od2 an2:Option Addr} {sl2:Array (Option Value)} {oc2 kV2 dc2 pm2 cd2 ct2:Value}
    {f3:Addr} {od3 an3:Option Addr} {sl3:Array (Option Value)} {oc3 kV3 dc3 pm3 cd3 ct3:Value}
    {f4:Addr} {od4 an4:Option Addr} {sl4:Array (Option Value)} {oc4 kV4 dc4 pm4 cd4 ct4:Value}
    {f5:Addr} {od5 an5:Option Addr} {sl5:Array (Option Value)} {oc5 kV5 dc5 pm5 cd5 ct5:Value}
    {f6:Addr} {od6 an6:Option Addr} {sl6:Array (Option Value)} {oc6 kV6 dc6 pm6 cd6 ct6:Value}
    {f7:Addr} {od7 an7:Option Addr} {sl7:Array (Option Value)} {oc7 kV7 dc7 pm7 cd7 ct7:Value}
    {f8:Addr} {od8 an8:Option Addr} {sl8:Array (Option Value)} {oc8 kV8 dc8 pm8 cd8 ct8:Value}
    {f9:Addr} {od9 an9:Option Addr} {sl9:Array (Option Value)} {oc9 kV9 dc9 pm9 cd9 ct9:Value}
    {f10:Addr} {od10 an10:Option Addr} {sl10:Array (Option Value)} {oc10 kV10 dc10 pm10 cd10 ct10:Value}
    {f11:Addr} {od11 an11:Option Addr} {sl11:Array (Option Value)} {oc11 kV11 dc11 pm11 cd11 ct11:Value}
    {f12:Addr} {od12 an12:Option Addr} {sl12:Array (Option Value)} {oc12 kV12 dc12 pm12 cd12 ct12:Value}
    {f13:Addr} {od13 an13:Option Addr} {sl13:Array (Option Value)} {oc13 kV13 dc13 pm13 cd13 ct13:Value}
    {f14:Addr} {od14 an14:Option Addr} {sl14:Array (Option Value)} {oc14 kV14 dc14 pm14 cd14 ct14:Value}
    {f15:Addr} {od15 an15:Option Addr} {sl15:Array (Option Value)} {oc15 kV15 dc15 pm15 cd15 ct15:Value}
    {f16:Addr} {od16 an16:Option Addr} {sl16:Array (Option Value)} {oc16 kV16 dc16 pm16 cd16 ct16:Value}
    {f17:Addr} {od17 an17:Option Addr} {sl17:Array (Option Value)} {oc17 kV17 dc17 pm17 cd17 ct17:Value}
    {f18:Addr} {od18 an18:Option Addr} {sl18:Array (Option Value)} {oc18 kV18 dc18 pm18 cd18 ct18:Value}
    {f19:Addr} {od19 an19:Option Addr} {sl19:Array (Option Value)} {oc19 kV19 dc19 pm19 cd19 ct19:Value}
    {f20:Addr} {od20 an20:Option Addr} {sl20:Array (Option Value)} {oc20 kV20 dc20 pm20 cd20 ct20:Value}
    {f21:Addr} {od21 an21:Option Addr} {sl21:Array (Option Value)} {oc21 kV21 dc21 pm21 cd21 ct21:Value}
    {f22:Addr} {od22 an22:Option Addr} {sl22:Array (Option Value)} {oc22 kV22 dc22 pm22 cd22 ct22:Value}
    {f23:Addr} {od23 an23:Option Addr} {sl23:Array (Option Value)} {oc23 kV23 dc23 pm23 cd23 ct23:Value}
    {f24:Addr} {od24 an24:Option Addr} {sl24:Array (Option Value)} {oc24 kV24 dc24 pm24 cd24 ct24:Value}
    {f25:Addr} {od25 an25:Option Addr} {sl25:Array (Option Value)} {oc25 kV25 dc25 pm25 cd25 ct25:Value}
    {f26:Addr} {od26 an26:Option Addr} {sl26:Array (Option Value)} {oc26 kV26 dc26 pm26 cd26 ct26:Value}
    {f27:Addr} {od27 an27:Option Addr} {sl27:Array (Option Value)} {oc27 kV27 dc27 pm27 cd27 ct27:Value}
    {f28:Addr} {od28 an28:Option Addr} {sl28:Array (Option Value)} {oc28 kV28 dc28 pm28 cd28 ct28:Value}
    {f29:Addr} {od29 an29:Option Addr} {sl29:Array (Option Value)} {oc29 kV29 dc29 pm29 cd29 ct29:Value}
    {f30:Addr} {od30 an30:Option Addr} {sl30:Array (Option Value)} {oc30 kV30 dc30 pm30 cd30 ct30:Value}
    {f31:Addr} {od31 an31:Option Addr} {sl31:Array (Option Value)} {oc31 kV31 dc31 pm31 cd31 ct31:Value}
    {f32:Addr} {od32 an32:Option Addr} {sl32:Array (Option Value)} {oc32 kV32 dc32 pm32 cd32 ct32:Value}
    {f33:Addr} {od33 an33:Option Addr} {sl33:Array (Option Value)} {oc33 kV33 dc33 pm33 cd33 ct33:Value}
    {f34:Addr} {od34 an34:Option Addr} {sl34:Array (Option Value)} {oc34 kV34 dc34 pm34 cd34 ct34:Value}
    {f35:Addr} {od35 an35:Option Addr} {sl35:Array (Option Value)} {oc35 kV35 dc35 pm35 cd35 ct35:Value}
    {f36:Addr} {od36 an36:Option Addr} {sl36:Array (Option Value)} {oc36 kV36 dc36 pm36 cd36 ct36:Value}
    (aC:PySem.W.nsIn K mainGlobals "Talk"=some (some (.ref C)))
    (pC:PySem.W.plainGet K C Str.empty=true)
    (hC:PySem.W.hasDictIn K C=true)
    (oC:PySem.W.plainOver K C=true)
    (sC:PySem.W.findIn K (.ref C) "__setattr__"=some (some (.builtin "object.__setattr__")))
    (mC:PySem.W.makesIn K C=true)
    (kC:PySem.W.keepIn K (.ref C)=true)
    (n_book:PySem.W.findIn K (.ref C) "book"=some none)
    (n_held:PySem.W.findIn K (.ref C) "held"=some none)
    (n_unanswered:PySem.W.findIn K (.ref C) "unanswered"=some none)
    (n_moves:PySem.W.findIn K (.ref C) "moves"=some none)
    (a0:PySem.W.nsIn K mainGlobals "_law_shaped"=some (some (.ref f0)))
    (l0:K.lookup f0=some ⟨oc0,od0,.func (PySem.W.fnOf "_law_shaped" "_law_shaped" (defArgs s__law_shaped) (defBody s__law_shaped) (defScope s__law_shaped) .none kV0 dc0 pm0 an0 cd0 ct0),sl0⟩)
    (c0:PySem.W.codeIn K cd0 "_law_shaped"=true)
    (k0:PySem.W.keepIn K (.ref f0)=true)
    (a1:PySem.W.nsIn K mainGlobals "_law_cell_at"=some (some (.ref f1)))
    (l1:K.lookup f1=some ⟨oc1,od1,.func (PySem.W.fnOf "_law_cell_at" "_law_cell_at" (defArgs s__law_cell_at) (defBody s__law_cell_at) (defScope s__law_cell_at) .none kV1 dc1 pm1 an1 cd1 ct1),sl1⟩)
    (c1:PySem.W.codeIn K cd1 "_law_cell_at"=true)
    (k1:PySem.W.keepIn K (.ref f1)=true)
    (a2:PySem.W.nsIn K mainGlobals "_law_rule_of"=some (some (.ref f2)))
    (l2:K.lookup f2=some ⟨oc2,od2,.func (PySem.W.fnOf "_law_rule_of" "_law_rule_of" (defArgs s__law_rule_of) (defBody s__law_rule_of) (defScope s__law_rule_of) .none kV2 dc2 pm2 an2 cd2 ct2),sl2⟩)
    (c2:PySem.W.codeIn K cd2 "_law_rule_of"=true)
    (k2:PySem.W.keepIn K (.ref f2)=true)
    (a3:PySem.W.nsIn K mainGlobals "_law_book_of"=some (some (.ref f3)))
    (l3:K.lookup f3=some ⟨oc3,od3,.func (PySem.W.fnOf "_law_book_of" "_law_book_of" (defArgs s__law_book_of) (defBody s__law_book_of) (defScope s__law_book_of) .none kV3 dc3 pm3 an3 cd3 ct3),sl3⟩)
    (c3:PySem.W.codeIn K cd3 "_law_book_of"=true)
    (k3:PySem.W.keepIn K (.ref f3)=true)
    (a4:PySem.W.nsIn K mainGlobals "_law_yields"=some (some (.ref f4)))
    (l4:K.lookup f4=some ⟨oc4,od4,.func (PySem.W.fnOf "_law_yields" "_law_yields" (defArgs s__law_yields) (defBody s__law_yields) (defScope s__law_yields) .none kV4 dc4 pm4 an4 cd4 ct4),sl4⟩)
    (c4:PySem.W.codeIn K cd4 "_law_yields"=true)
    (k4:PySem.W.keepIn K (.ref f4)=true)
    (a5:PySem.W.nsIn K mainGlobals "_law_defends"=some (some (.ref f5)))
    (l5:K.lookup f5=some ⟨oc5,od5,.func (PySem.W.fnOf "_law_defends" "_law_defends" (defArgs s__law_defends) (defBody s__law_defends) (defScope s__law_defends) .none kV5 dc5 pm5 an5 cd5 ct5),sl5⟩)
    (c5:PySem.W.codeIn K cd5 "_law_defends"=true)
    (k5:PySem.W.keepIn K (.ref f5)=true)
    (a6:PySem.W.nsIn K mainGlobals "_law_ranks"=some (some (.ref f6)))
    (l6:K.lookup f6=some ⟨oc6,od6,.func (PySem.W.fnOf "_law_ranks" "_law_ranks" (defArgs s__law_ranks) (defBody s__law_ranks) (defScope s__law_ranks) .none kV6 dc6 pm6 an6 cd6 ct6),sl6⟩)
    (c6:PySem.W.codeIn K cd6 "_law_ranks"=true)
    (k6:PySem.W.keepIn K (.ref f6)=true)
    (a7:PySem.W.nsIn K mainGlobals "all_guesses"=some (some (.ref f7)))
    (l7:K.lookup f7=some ⟨oc7,od7,.func (PySem.W.fnOf "all_guesses" "all_guesses" (defArgs s_all_guesses) (defBody s_all_guesses) (defScope s_all_guesses) .none kV7 dc7 pm7 an7 cd7 ct7),sl7⟩)
    (c7:PySem.W.codeIn K cd7 "all_guesses"=true)
    (k7:PySem.W.keepIn K (.ref f7)=true)
    (a8:PySem.W.nsIn K mainGlobals "mask_of"=some (some (.ref f8)))
    (l8:K.lookup f8=some ⟨oc8,od8,.func (PySem.W.fnOf "mask_of" "mask_of" (defArgs s_mask_of) (defBody s_mask_of) (defScope s_mask_of) .none kV8 dc8 pm8 an8 cd8 ct8),sl8⟩)
    (c8:PySem.W.codeIn K cd8 "mask_of"=true)
    (k8:PySem.W.keepIn K (.ref f8)=true)
    (a9:PySem.W.nsIn K mainGlobals "known_after"=some (some (.ref f9)))
    (l9:K.lookup f9=some ⟨oc9,od9,.func (PySem.W.fnOf "known_after" "known_after" (defArgs s_known_after) (defBody s_known_after) (defScope s_known_after) .none kV9 dc9 pm9 an9 cd9 ct9),sl9⟩)
    (c9:PySem.W.codeIn K cd9 "known_after"=true)
    (k9:PySem.W.keepIn K (.ref f9)=true)
    (a10:PySem.W.nsIn K mainGlobals "inside"=some (some (.ref f10)))
    (l10:K.lookup f10=some ⟨oc10,od10,.func (PySem.W.fnOf "inside" "inside" (defArgs s_inside) (defBody s_inside) (defScope s_inside) .none kV10 dc10 pm10 an10 cd10 ct10),sl10⟩)
    (c10:PySem.W.codeIn K cd10 "inside"=true)
    (k10:PySem.W.keepIn K (.ref f10)=true)
    (a11:PySem.W.nsIn K mainGlobals "bringing_steps"=some (some (.ref f11)))
    (l11:K.lookup f11=some ⟨oc11,od11,.func (PySem.W.fnOf "bringing_steps" "bringing_steps" (defArgs s_bringing_steps) (defBody s_bringing_steps) (defScope s_bringing_steps) .none kV11 dc11 pm11 an11 cd11 ct11),sl11⟩)
    (c11:PySem.W.codeIn K cd11 "bringing_steps"=true)
    (k11:PySem.W.keepIn K (.ref f11)=true)
    (a12:PySem.W.nsIn K mainGlobals "yielded"=some (some (.ref f12)))
    (l12:K.lookup f12=some ⟨oc12,od12,.func (PySem.W.fnOf "yielded" "yielded" (defArgs s_yielded) (defBody s_yielded) (defScope s_yielded) .none kV12 dc12 pm12 an12 cd12 ct12),sl12⟩)
    (c12:PySem.W.codeIn K cd12 "yielded"=true)
    (k12:PySem.W.keepIn K (.ref f12)=true)
    (a13:PySem.W.nsIn K mainGlobals "struck"=some (some (.ref f13)))
    (l13:K.lookup f13=some ⟨oc13,od13,.func (PySem.W.fnOf "struck" "struck" (defArgs s_struck) (defBody s_struck) (defScope s_struck) .none kV13 dc13 pm13 an13 cd13 ct13),sl13⟩)
    (c13:PySem.W.codeIn K cd13 "struck"=true)
    (k13:PySem.W.keepIn K (.ref f13)=true)
    (a14:PySem.W.nsIn K mainGlobals "unstruck"=some (some (.ref f14)))
    (l14:K.lookup f14=some ⟨oc14,od14,.func (PySem.W.fnOf "unstruck" "unstruck" (defArgs s_unstruck) (defBody s_unstruck) (defScope s_unstruck) .none kV14 dc14 pm14 an14 cd14 ct14),sl14⟩)
    (c14:PySem.W.codeIn K cd14 "unstruck"=true)
    (k14:PySem.W.keepIn K (.ref f14)=true)
    (a15:PySem.W.nsIn K mainGlobals "defended"=some (some (.ref f15)))
    (l15:K.lookup f15=some ⟨oc15,od15,.func (PySem.W.fnOf "defended" "defended" (defArgs s_defended) (defBody s_defended) (defScope s_defended) .none kV15 dc15 pm15 an15 cd15 ct15),sl15⟩)
    (c15:PySem.W.codeIn K cd15 "defended"=true)
    (k15:PySem.W.keepIn K (.ref f15)=true)
    (a16:PySem.W.nsIn K mainGlobals "rounds"=some (some (.ref f16)))
    (l16:K.lookup f16=some ⟨oc16,od16,.func (PySem.W.fnOf "rounds" "rounds" (defArgs s_rounds) (defBody s_rounds) (defScope s_rounds) .none kV16 dc16 pm16 an16 cd16 ct16),sl16⟩)
    (c16:PySem.W.codeIn K cd16 "rounds"=true)
    (k16:PySem.W.keepIn K (.ref f16)=true)
    (a17:PySem.W.nsIn K mainGlobals "rank_in"=some (some (.ref f17)))
    (l17:K.lookup f17=some ⟨oc17,od17,.func (PySem.W.fnOf "rank_in" "rank_in" (defArgs s_rank_in) (defBody s_rank_in) (defScope s_rank_in) .none kV17 dc17 pm17 an17 cd17 ct17),sl17⟩)
    (c17:PySem.W.codeIn K cd17 "rank_in"=true)
    (k17:PySem.W.keepIn K (.ref f17)=true)
    (a18:PySem.W.nsIn K mainGlobals "places"=some (some (.ref f18)))
    (l18:K.lookup f18=some ⟨oc18,od18,.func (PySem.W.fnOf "places" "places" (defArgs s_places) (defBody s_places) (defScope s_places) .none kV18 dc18 pm18 an18 cd18 ct18),sl18⟩)
    (c18:PySem.W.codeIn K cd18 "places"=true)
    (k18:PySem.W.keepIn K (.ref f18)=true)
    (a19:PySem.W.nsIn K mainGlobals "does_yield"=some (some (.ref f19)))
    (l19:K.lookup f19=some ⟨oc19,od19,.func (PySem.W.fnOf "does_yield" "does_yield" (defArgs s_does_yield) (defBody s_does_yield) (defScope s_does_yield) .none kV19 dc19 pm19 an19 cd19 ct19),sl19⟩)
    (c19:PySem.W.codeIn K cd19 "does_yield"=true)
    (k19:PySem.W.keepIn K (.ref f19)=true)
    (a20:PySem.W.nsIn K mainGlobals "a_reason"=some (some (.ref f20)))
    (l20:K.lookup f20=some ⟨oc20,od20,.func (PySem.W.fnOf "a_reason" "a_reason" (defArgs s_a_reason) (defBody s_a_reason) (defScope s_a_reason) .none kV20 dc20 pm20 an20 cd20 ct20),sl20⟩)
    (c20:PySem.W.codeIn K cd20 "a_reason"=true)
    (k20:PySem.W.keepIn K (.ref f20)=true)
    (a21:PySem.W.nsIn K mainGlobals "first_strike"=some (some (.ref f21)))
    (l21:K.lookup f21=some ⟨oc21,od21,.func (PySem.W.fnOf "first_strike" "first_strike" (defArgs s_first_strike) (defBody s_first_strike) (defScope s_first_strike) .none kV21 dc21 pm21 an21 cd21 ct21),sl21⟩)
    (c21:PySem.W.codeIn K cd21 "first_strike"=true)
    (k21:PySem.W.keepIn K (.ref f21)=true)
    (a22:PySem.W.nsIn K mainGlobals "reply"=some (some (.ref f22)))
    (l22:K.lookup f22=some ⟨oc22,od22,.func (PySem.W.fnOf "reply" "reply" (defArgs s_reply) (defBody s_reply) (defScope s_reply) .none kV22 dc22 pm22 an22 cd22 ct22),sl22⟩)
    (c22:PySem.W.codeIn K cd22 "reply"=true)
    (k22:PySem.W.keepIn K (.ref f22)=true)
    (a23:PySem.W.findIn K (.ref C) "__init__"=some (some (.ref f23)))
    (i23:PySem.W.isFn K (.ref f23)=true)
    (l23:K.lookup f23=some ⟨oc23,od23,.func (PySem.W.fnOf "__init__" "Talk.__init__" (defArgs s_Talk___init__) (defBody s_Talk___init__) (defScope s_Talk___init__) .none kV23 dc23 pm23 an23 cd23 ct23),sl23⟩)
    (c23:PySem.W.codeIn K cd23 "Talk.__init__"=true)
    (k23:PySem.W.keepIn K (.ref f23)=true)
    (a24:PySem.W.nsIn K mainGlobals "_law_tops"=some (some (.ref f24)))
    (l24:K.lookup f24=some ⟨oc24,od24,.func (PySem.W.fnOf "_law_tops" "_law_tops" (defArgs s__law_tops) (defBody s__law_tops) (defScope s__law_tops) .none kV24 dc24 pm24 an24 cd24 ct24),sl24⟩)
    (c24:PySem.W.codeIn K cd24 "_law_tops"=true)
    (k24:PySem.W.keepIn K (.ref f24)=true)
    (a25:PySem.W.nsIn K mainGlobals "_law_struck_by"=some (some (.ref f25)))
    (l25:K.lookup f25=some ⟨oc25,od25,.func (PySem.W.fnOf "_law_struck_by" "_law_struck_by" (defArgs s__law_struck_by) (defBody s__law_struck_by) (defScope s__law_struck_by) .none kV25 dc25 pm25 an25 cd25 ct25),sl25⟩)
    (c25:PySem.W.codeIn K cd25 "_law_struck_by"=true)
    (k25:PySem.W.keepIn K (.ref f25)=true)
    (a26:PySem.W.findIn K (.ref C) "turn"=some (some (.ref f26)))
    (i26:PySem.W.isFn K (.ref f26)=true)
    (l26:K.lookup f26=some ⟨oc26,od26,.func (PySem.W.fnOf "turn" "Talk.turn" (defArgs s_Talk_turn) (defBody s_Talk_turn) (defScope s_Talk_turn) .none kV26 dc26 pm26 an26 cd26 ct26),sl26⟩)
    (c26:PySem.W.codeIn K cd26 "Talk.turn"=true)
    (k26:PySem.W.keepIn K (.ref f26)=true)
    (a27:PySem.W.findIn K (.ref C) "aims"=some (some (.ref f27)))
    (i27:PySem.W.isFn K (.ref f27)=true)
    (l27:K.lookup f27=some ⟨oc27,od27,.func (PySem.W.fnOf "aims" "Talk.aims" (defArgs s_Talk_aims) (defBody s_Talk_aims) (defScope s_Talk_aims) .none kV27 dc27 pm27 an27 cd27 ct27),sl27⟩)
    (c27:PySem.W.codeIn K cd27 "Talk.aims"=true)
    (k27:PySem.W.keepIn K (.ref f27)=true)
    (a28:PySem.W.findIn K (.ref C) "can_name"=some (some (.ref f28)))
    (i28:PySem.W.isFn K (.ref f28)=true)
    (l28:K.lookup f28=some ⟨oc28,od28,.func (PySem.W.fnOf "can_name" "Talk.can_name" (defArgs s_Talk_can_name) (defBody s_Talk_can_name) (defScope s_Talk_can_name) .none kV28 dc28 pm28 an28 cd28 ct28),sl28⟩)
    (c28:PySem.W.codeIn K cd28 "Talk.can_name"=true)
    (k28:PySem.W.keepIn K (.ref f28)=true)
    (a29:PySem.W.findIn K (.ref C) "doubted"=some (some (.ref f29)))
    (i29:PySem.W.isFn K (.ref f29)=true)
    (l29:K.lookup f29=some ⟨oc29,od29,.func (PySem.W.fnOf "doubted" "Talk.doubted" (defArgs s_Talk_doubted) (defBody s_Talk_doubted) (defScope s_Talk_doubted) .none kV29 dc29 pm29 an29 cd29 ct29),sl29⟩)
    (c29:PySem.W.codeIn K cd29 "Talk.doubted"=true)
    (k29:PySem.W.keepIn K (.ref f29)=true)
    (a30:PySem.W.findIn K (.ref C) "replied"=some (some (.ref f30)))
    (i30:PySem.W.isFn K (.ref f30)=true)
    (l30:K.lookup f30=some ⟨oc30,od30,.func (PySem.W.fnOf "replied" "Talk.replied" (defArgs s_Talk_replied) (defBody s_Talk_replied) (defScope s_Talk_replied) .none kV30 dc30 pm30 an30 cd30 ct30),sl30⟩)
    (c30:PySem.W.codeIn K cd30 "Talk.replied"=true)
    (k30:PySem.W.keepIn K (.ref f30)=true)
    (a31:PySem.W.findIn K (.ref C) "winner"=some (some (.ref f31)))
    (i31:PySem.W.isFn K (.ref f31)=true)
    (l31:K.lookup f31=some ⟨oc31,od31,.func (PySem.W.fnOf "winner" "Talk.winner" (defArgs s_Talk_winner) (defBody s_Talk_winner) (defScope s_Talk_winner) .none kV31 dc31 pm31 an31 cd31 ct31),sl31⟩)
    (c31:PySem.W.codeIn K cd31 "Talk.winner"=true)
    (k31:PySem.W.keepIn K (.ref f31)=true)
    (a32:PySem.W.nsIn K mainGlobals "_law_reason"=some (some (.ref f32)))
    (l32:K.lookup f32=some ⟨oc32,od32,.func (PySem.W.fnOf "_law_reason" "_law_reason" (defArgs s__law_reason) (defBody s__law_reason) (defScope s__law_reason) .none kV32 dc32 pm32 an32 cd32 ct32),sl32⟩)
    (c32:PySem.W.codeIn K cd32 "_law_reason"=true)
    (k32:PySem.W.keepIn K (.ref f32)=true)
    (a33:PySem.W.nsIn K mainGlobals "_law_good"=some (some (.ref f33)))
    (l33:K.lookup f33=some ⟨oc33,od33,.func (PySem.W.fnOf "_law_good" "_law_good" (defArgs s__law_good) (defBody s__law_good) (defScope s__law_good) .none kV33 dc33 pm33 an33 cd33 ct33),sl33⟩)
    (c33:PySem.W.codeIn K cd33 "_law_good"=true)
    (k33:PySem.W.keepIn K (.ref f33)=true)
    (a34:PySem.W.findIn K (.ref C) "now"=some (some (.ref f34)))
    (i34:PySem.W.isFn K (.ref f34)=true)
    (l34:K.lookup f34=some ⟨oc34,od34,.func (PySem.W.fnOf "now" "Talk.now" (defArgs s_Talk_now) (defBody s_Talk_now) (defScope s_Talk_now) .none kV34 dc34 pm34 an34 cd34 ct34),sl34⟩)
    (c34:PySem.W.codeIn K cd34 "Talk.now"=true)
    (k34:PySem.W.keepIn K (.ref f34)=true)
    (a35:PySem.W.nsIn K mainGlobals "_law_won"=some (some (.ref f35)))
    (l35:K.lookup f35=some ⟨oc35,od35,.func (PySem.W.fnOf "_law_won" "_law_won" (defArgs s__law_won) (defBody s__law_won) (defScope s__law_won) .none kV35 dc35 pm35 an35 cd35 ct35),sl35⟩)
    (c35:PySem.W.codeIn K cd35 "_law_won"=true)
    (k35:PySem.W.keepIn K (.ref f35)=true)
    (a36:PySem.W.nsIn K mainGlobals "law"=some (some (.ref f36)))
    (l36:K.lookup f36=some ⟨oc36,od36,.func (PySem.W.fnOf "law" "law" (defArgs s_law) (defBody s_law) (defScope s_law) .none kV36 dc36 pm36 an36 cd36 ct36),sl36⟩)
    (c36:PySem.W.codeIn K cd36 "law"=true)
    (k36:PySem.W.keepIn K (.ref f36)=true)
    (z_all:PySem.W.nsIn K mainGlobals "all"=some none)
    (z_bool:PySem.W.nsIn K mainGlobals "bool"=some none)
    (z_enumerate:PySem.W.nsIn K mainGlobals "enumerate"=some none)
    (z_int:PySem.W.nsIn K mainGlobals "int"=some none)
    (z_isinstance:PySem.W.nsIn K mainGlobals "isinstance"=some none)
    (z_len:PySem.W.nsIn K mainGlobals "len"=some none)
    (z_max:PySem.W.nsIn K mainGlobals "max"=some none)
    (z_range:PySem.W.nsIn K mainGlobals "range"=some none)
    (z_sum:PySem.W.nsIn K mainGlobals "sum"=some none)
    (z_tuple:PySem.W.nsIn K mainGlobals "tuple"=some none)
    : ∃ fd:FuncData,(∀ (s:Shared) (v:Value),BindsTo s fd ⟨[v],[]⟩ [("script",v)])∧∀ base:Heap,K.In base→base.Ns mainGlobals mg→FnOk l.prog w K mg base CX0 10 fa fd ["script"] (spM K 1 trueOn):=by
  have e:=hfa.symm.trans (PySem.W.mg_of X G a36)
  cases e
  have T:Txt mg:=⟨PySem.W.mg_none_of X G z_all,PySem.W.mg_none_of X G z_bool,PySem.W.mg_none_of X G z_enumerate,PySem.W.mg_none_of X G z_int,PySem.W.mg_none_of X G z_isinstance,PySem.W.mg_none_of X G z_len,PySem.W.mg_none_of X G z_max,PySem.W.mg_none_of X G z_range,PySem.W.mg_none_of X G z_sum,PySem.W.mg_none_of X G z_tuple⟩
  have CL:Cls K C:=⟨pC,hC,oC,sC⟩
  have W:TFld K C:=⟨⟨CL,n_book⟩,⟨CL,n_held⟩,⟨CL,n_unanswered⟩,⟨CL,n_moves⟩⟩
  have F0:=fun_mk (st:=s__law_shaped) l0 c0 k0
  have b0:=F0.binds (ps:=["shape","banes","guesses"]) fun _ _ _ _ _ _=>un3 fun _ _ _=>rfl
  have F1:=fun_mk (st:=s__law_cell_at) l1 c1 k1
  have b1:=F1.binds (ps:=["script","k"]) fun _ _ _ _ _ _=>un2 fun _ _=>rfl
  have F2:=fun_mk (st:=s__law_rule_of) l2 c2 k2
  have b2:=F2.binds (ps:=["cell","guesses","words"]) fun _ _ _ _ _ _=>un3 fun _ _ _=>rfl
  have F3:=fun_mk (st:=s__law_book_of) l3 c3 k3
  have b3:=F3.binds (ps:=["script","guesses","words","cut"]) fun _ _ _ _ _ _=>un4 fun _ _ _ _=>rfl
  have F4:=fun_mk (st:=s__law_yields) l4 c4 k4
  have b4:=F4.binds (ps:=["book","held"]) fun _ _ _ _ _ _=>un2 fun _ _=>rfl
  have F5:=fun_mk (st:=s__law_defends) l5 c5 k5
  have b5:=F5.binds (ps:=["book","held"]) fun _ _ _ _ _ _=>un2 fun _ _=>rfl
  have F6:=fun_mk (st:=s__law_ranks) l6 c6 k6
  have b6:=F6.binds (ps:=["book"]) fun _ _ _ _ _ _=>un1 fun _=>rfl
  have F7:=fun_mk (st:=s_all_guesses) l7 c7 k7
  have b7:=F7.binds (ps:=["book"]) fun _ _ _ _ _ _=>un1 fun _=>rfl
  have F8:=fun_mk (st:=s_mask_of) l8 c8 k8
  have b8:=F8.binds (ps:=["row"]) fun _ _ _ _ _ _=>un1 fun _=>rfl
  have F9:=fun_mk (st:=s_known_after) l9 c9 k9
  have b9:=F9.binds (ps:=["book","held","steps"]) fun _ _ _ _ _ _=>un3 fun _ _ _=>rfl
  have F10:=fun_mk (st:=s_inside) l10 c10 k10
  have b10:=F10.binds (ps:=["mask","other"]) fun _ _ _ _ _ _=>un2 fun _ _=>rfl
  have F11:=fun_mk (st:=s_bringing_steps) l11 c11 k11
  have b11:=F11.binds (ps:=["book","held"]) fun _ _ _ _ _ _=>un2 fun _ _=>rfl
  have F12:=fun_mk (st:=s_yielded) l12 c12 k12
  have b12:=F12.binds (ps:=["book","held"]) fun _ _ _ _ _ _=>un2 fun _ _=>rfl
  have F13:=fun_mk (st:=s_struck) l13 c13 k13
  have b13:=F13.binds (ps:=["book","held"]) fun _ _ _ _ _ _=>un2 fun _ _=>rfl
  have F14:=fun_mk (st:=s_unstruck) l14 c14 k14
  have b14:=F14.binds (ps:=["book","held"]) fun _ _ _ _ _ _=>un2 fun _ _=>rfl
  have F15:=fun_mk (st:=s_defended) l15 c15 k15
  have b15:=F15.binds (ps:=["book","held"]) fun _ _ _ _ _ _=>un2 fun _ _=>rfl
  have F16:=fun_mk (st:=s_rounds) l16 c16 k16
  have b16:=F16.binds (ps:=["book"]) fun _ _ _ _ _ _=>un1 fun _=>rfl
  have F17:=fun_mk (st:=s_rank_in) l17 c17 k17
  have b17:=F17.binds (ps:=["sets","guess"]) fun _ _ _ _ _ _=>un2 fun _ _=>rfl
  have F18:=fun_mk (st:=s_places) l18 c18 k18
  have b18:=F18.binds (ps:=["mask"]) fun _ _ _ _ _ _=>un1 fun _=>rfl
  have F19:=fun_mk (st:=s_does_yield) l19 c19 k19
  have b19:=F19.binds (ps:=["book","held","word"]) fun _ _ _ _ _ _=>un3 fun _ _ _=>rfl
  have F20:=fun_mk (st:=s_a_reason) l20 c20 k20
  have b20:=F20.binds (ps:=["book","within","word"]) fun _ _ _ _ _ _=>un3 fun _ _ _=>rfl
  have F21:=fun_mk (st:=s_first_strike) l21 c21 k21
  have b21:=F21.binds (ps:=["book","guesses","within"]) fun _ _ _ _ _ _=>un3 fun _ _ _=>rfl
  have F22:=fun_mk (st:=s_reply) l22 c22 k22
  have b22:=F22.binds (ps:=["book","guess","striker"]) fun _ _ _ _ _ _=>un3 fun _ _ _=>rfl
  have F23:=fun_mk (st:=s_Talk___init__) l23 c23 k23
  have b23:=F23.binds (ps:=["self","book","held"]) fun _ _ _ _ _ _=>un3 fun _ _ _=>rfl
  have F24:=fun_mk (st:=s__law_tops) l24 c24 k24
  have b24:=F24.binds (ps:=["ranks","held"]) fun _ _ _ _ _ _=>un2 fun _ _=>rfl
  have F25:=fun_mk (st:=s__law_struck_by) l25 c25 k25
  have b25:=F25.binds (ps:=["book","guess","cell"]) fun _ _ _ _ _ _=>un3 fun _ _ _=>rfl
  have F26:=fun_mk (st:=s_Talk_turn) l26 c26 k26
  have b26:=F26.binds (ps:=["self"]) fun _ _ _ _ _ _=>un1 fun _=>rfl
  have F27:=fun_mk (st:=s_Talk_aims) l27 c27 k27
  have b27:=F27.binds (ps:=["self"]) fun _ _ _ _ _ _=>un1 fun _=>rfl
  have F28:=fun_mk (st:=s_Talk_can_name) l28 c28 k28
  have b28:=F28.binds (ps:=["self","guess","striker"]) fun _ _ _ _ _ _=>un3 fun _ _ _=>rfl
  have F29:=fun_mk (st:=s_Talk_doubted) l29 c29 k29
  have b29:=F29.binds (ps:=["self","guess","striker"]) fun _ _ _ _ _ _=>un3 fun _ _ _=>rfl
  have F30:=fun_mk (st:=s_Talk_replied) l30 c30 k30
  have b30:=F30.binds (ps:=["self","guess","striker"]) fun _ _ _ _ _ _=>un3 fun _ _ _=>rfl
  have F31:=fun_mk (st:=s_Talk_winner) l31 c31 k31
  have b31:=F31.binds (ps:=["self"]) fun _ _ _ _ _ _=>un1 fun _=>rfl
  have F32:=fun_mk (st:=s__law_reason) l32 c32 k32
  have b32:=F32.binds (ps:=["book","held","word"]) fun _ _ _ _ _ _=>un3 fun _ _ _=>rfl
  have F33:=fun_mk (st:=s__law_good) l33 c33 k33
  have b33:=F33.binds (ps:=["book","ranks","guess","striker","told"]) fun _ _ _ _ _ _=>un5 fun _ _ _ _ _=>rfl
  have F34:=fun_mk (st:=s_Talk_now) l34 c34 k34
  have b34:=F34.binds (ps:=["self"]) fun _ _ _ _ _ _=>un1 fun _=>rfl
  have F35:=fun_mk (st:=s__law_won) l35 c35 k35
  have b35:=F35.binds (ps:=["book","ranks","held","cells"]) fun _ _ _ _ _ _=>un4 fun _ _ _ _=>rfl
  have F36:=fun_mk (st:=s_law) l36 c36 k36
  refine ⟨PySem.W.fnOf "law" "law" (defArgs s_law) (defBody s_law) (defScope s_law) .none kV36 dc36 pm36 an36 cd36 ct36,fun s v => .of_eq rfl,fun base _ _ => ?_⟩
  have q0:CalO l.prog w K mg base 1 "_law_shaped" 3 r__law_shaped_2:=⟨_,_,_,ok__law_shaped T  F0,PySem.W.mg_of X G a0,k0,b0⟩
  have q1:Cal l.prog w K mg base 1 "_law_cell_at" 2 r__law_cell_at:=⟨_,_,_,ok__law_cell_at T  F1,PySem.W.mg_of X G a1,k1,b1⟩
  have q2:Cal l.prog w K mg base 1 "_law_rule_of" 3 r__law_rule_of_2:=⟨_,_,_,ok__law_rule_of T  F2,PySem.W.mg_of X G a2,k2,b2⟩
  have q3:Cal l.prog w K mg base 2 "_law_book_of" 4 r__law_book_of_5:=⟨_,_,_,ok__law_book_of T q0 q1 q2 F3,PySem.W.mg_of X G a3,k3,b3⟩
  have q4:Cal l.prog w K mg base 1 "_law_yields" 2 r__law_yields:=⟨_,_,_,ok__law_yields T  F4,PySem.W.mg_of X G a4,k4,b4⟩
  have q5:Cal l.prog w K mg base 2 "_law_defends" 2 r__law_defends:=⟨_,_,_,ok__law_defends T q4 F5,PySem.W.mg_of X G a5,k5,b5⟩
  have q6:Cal l.prog w K mg base 3 "_law_ranks" 1 r__law_ranks:=⟨_,_,_,ok__law_ranks T q5 F6,PySem.W.mg_of X G a6,k6,b6⟩
  have q7:Cal l.prog w K mg base 1 "all_guesses" 1 r_all_guesses:=⟨_,_,_,ok_all_guesses T  F7,PySem.W.mg_of X G a7,k7,b7⟩
  have q8:Cal l.prog w K mg base 1 "mask_of" 1 r_mask_of:=⟨_,_,_,ok_mask_of T  F8,PySem.W.mg_of X G a8,k8,b8⟩
  have q9:Cal l.prog w K mg base 2 "known_after" 3 r_known_after:=⟨_,_,_,ok_known_after T q8 F9,PySem.W.mg_of X G a9,k9,b9⟩
  have q10:Cal l.prog w K mg base 1 "inside" 2 r_inside:=⟨_,_,_,ok_inside T  F10,PySem.W.mg_of X G a10,k10,b10⟩
  have q11:Cal l.prog w K mg base 2 "bringing_steps" 2 r_bringing_steps:=⟨_,_,_,ok_bringing_steps T q8 q10 F11,PySem.W.mg_of X G a11,k11,b11⟩
  have q12:Cal l.prog w K mg base 3 "yielded" 2 r_yielded:=⟨_,_,_,ok_yielded T q9 q11 F12,PySem.W.mg_of X G a12,k12,b12⟩
  have q13:Cal l.prog w K mg base 4 "struck" 2 r_struck:=⟨_,_,_,ok_struck T q8 q10 q12 F13,PySem.W.mg_of X G a13,k13,b13⟩
  have q14:Cal l.prog w K mg base 5 "unstruck" 2 r_unstruck:=⟨_,_,_,ok_unstruck T q7 q13 F14,PySem.W.mg_of X G a14,k14,b14⟩
  have q15:Cal l.prog w K mg base 6 "defended" 2 r_defended:=⟨_,_,_,ok_defended T q14 F15,PySem.W.mg_of X G a15,k15,b15⟩
  have q16:Cal l.prog w K mg base 7 "rounds" 1 r_rounds:=⟨_,_,_,ok_rounds T q15 F16,PySem.W.mg_of X G a16,k16,b16⟩
  have q17:Cal l.prog w K mg base 2 "rank_in" 2 r_rank_in:=⟨_,_,_,ok_rank_in T q10 F17,PySem.W.mg_of X G a17,k17,b17⟩
  have q18:Cal l.prog w K mg base 1 "places" 1 r_places:=⟨_,_,_,ok_places T  F18,PySem.W.mg_of X G a18,k18,b18⟩
  have q19:Cal l.prog w K mg base 4 "does_yield" 3 r_does_yield:=⟨_,_,_,ok_does_yield T q10 q12 F19,PySem.W.mg_of X G a19,k19,b19⟩
  have q20:Cal l.prog w K mg base 5 "a_reason" 3 r_a_reason:=⟨_,_,_,ok_a_reason T q18 q19 F20,PySem.W.mg_of X G a20,k20,b20⟩
  have q21:Cal l.prog w K mg base 6 "first_strike" 3 r_first_strike:=⟨_,_,_,ok_first_strike T q18 q20 F21,PySem.W.mg_of X G a21,k21,b21⟩
  have q22:Cal l.prog w K mg base 8 "reply" 3 r_reply:=⟨_,_,_,ok_reply T q13 q16 q17 q18 q21 F22,PySem.W.mg_of X G a22,k22,b22⟩
  have q23:CalMk l.prog w K mg base 1 C "moves" "Talk" 3 (r_Talk___init__ C):=⟨_,_,_,ok_Talk___init__ T W  F23,⟨mC,a23,i23,kC⟩,PySem.W.mg_of X G aC,b23⟩
  have q24:Cal l.prog w K mg base 1 "_law_tops" 2 r__law_tops:=⟨_,_,_,ok__law_tops T  F24,PySem.W.mg_of X G a24,k24,b24⟩
  have q25:Cal l.prog w K mg base 2 "_law_struck_by" 3 r__law_struck_by:=⟨_,_,_,ok__law_struck_by T q4 F25,PySem.W.mg_of X G a25,k25,b25⟩
  have q26:CalMt l.prog w K mg base 1 C "turn" 1 (r_Talk_turn C):=⟨_,_,_,ok_Talk_turn T W  F26,CL,⟨a26,i26,k26⟩,b26⟩
  have q27:CalMt l.prog w K mg base 1 C "aims" 1 (r_Talk_aims C):=⟨_,_,_,ok_Talk_aims T W  F27,CL,⟨a27,i27,k27⟩,b27⟩
  have q28:CalMt l.prog w K mg base 5 C "can_name" 3 (r_Talk_can_name C):=⟨_,_,_,ok_Talk_can_name T W q13 q18 q27 F28,CL,⟨a28,i28,k28⟩,b28⟩
  have q29:CalX l.prog w K mg base 6 C "moves" "doubted" 3 (r_Talk_doubted C):=⟨_,_,_,ok_Talk_doubted T W q26 q28 F29,CL,⟨a29,i29,k29⟩,b29⟩
  have q30:CalX l.prog w K mg base 6 C "moves" "replied" 3 (r_Talk_replied C):=⟨_,_,_,ok_Talk_replied T W q26 q28 F30,CL,⟨a30,i30,k30⟩,b30⟩
  have q31:CalMt l.prog w K mg base 5 C "winner" 1 (r_Talk_winner C):=⟨_,_,_,ok_Talk_winner T W q7 q13 q26 q27 F31,CL,⟨a31,i31,k31⟩,b31⟩
  have q32:Cal l.prog w K mg base 2 "_law_reason" 3 r__law_reason:=⟨_,_,_,ok__law_reason T q4 F32,PySem.W.mg_of X G a32,k32,b32⟩
  have q33:Cal l.prog w K mg base 3 "_law_good" 5 r__law_good_2:=⟨_,_,_,ok__law_good T q32 F33,PySem.W.mg_of X G a33,k33,b33⟩
  have q34:CalMt l.prog w K mg base 1 C "now" 1 (r_Talk_now C):=⟨_,_,_,ok_Talk_now T W  F34,CL,⟨a34,i34,k34⟩,b34⟩
  have q35:Cal l.prog w K mg base 9 "_law_won" 4 (r__law_won C):=⟨_,_,_,ok__law_won T W q1 q4 q22 q23 q24 q25 q26 q29 q30 q31 q33 q34 F35,PySem.W.mg_of X G a35,k35,b35⟩
  exact (ok_law T W q1 q3 q4 q6 q22 q33 q35 F36).sw fun qs r h=>trueOn_get (hlaw C) h
theorem walk {l:PySem.W.OpenLaw} {q:Program} {loose:List Str} {XP:(Str→Option Value)→Heap→Prop} {YP:World→Heap→Prop} {d:DefRec} {K:Params→PySem.W.Frag} (hn:l.most=some 63) (hdf:d.params.defaults=[])
    (hY:∀ (w:World) (h:Heap),YP w h→(K w.params).In h) (hlaw:∀ ns:List Int,ns.length≤63→trueOn [.lst (ns.map .int)]=some (.bl true))
    (F:∀ (w:World) (mg:Str→Option Value) (fa:Addr) (h:Heap),(K w.params).In h→h.Ns mainGlobals mg→mg d.name=some (.ref fa) →
      ∃ fd:FuncData,(∀ (s:Shared) (u:Value),BindsTo s fd ⟨[u],[]⟩ [("script",u)])∧∀ base:Heap,(K w.params).In base→base.Ns mainGlobals mg→FnOk l.prog w (K w.params) mg base CX0 10 fa fd ["script"] (spM (K w.params) 1 trueOn)) :
    PySem.W.WalkO q loose XP YP l.row.toRowW d [] (fun f vs=>PySem.call f vs) :=
  L2.walk_of (n:=63) (k:=10) (x := "script") (CX:=fun _=>CX0) (sp:=fun w=>spM (K w.params) 1 trueOn) hn (by decide) hdf ⟨rfl,by decide,by decide⟩ hY F (fun w H a ns hl _ hS=>law_sp hlaw hl hS) fun _ _ _ _ _ z=>z
end K34
open PySem PySem.W PyProof.Rows
set_option maxRecDepth 100000 in
set_option maxHeartbeats 8000000 in
theorem PySem.Challenge.cw_doubthall_k34_whole_speaker_holds : PySem.Challenge.rw_doubthall_k34_whole_speaker.Holds := by
  w_on;o_law;k_head;(case hw=>w_witness2)
  k_fill
  refine K34.walk (l:=PySem.Challenge.rw_doubthall_k34_whole_speaker) rfl rfl (fun w h Y=>PySem.W.kIn_of Y) L2.PM.trueOn_ok ?F
  case F =>
    intro w mg fa h KX G hmg
    refine' K34.all_mk K34.law_true KX G hmg ?aC ?pC ?hC ?oC ?sC ?mC ?kC ?n_book ?n_held ?n_unanswered ?n_moves ?a0 ?l0 ?c0 ?k0 ?a1 ?l1 ?c1 ?k1 ?a2 ?l2 ?c2 ?k2 ?a3 ?l3 ?c3 ?k3 ?a4 ?l4 ?c4 ?k4 ?a5 ?l5 ?c5 ?k5 ?a6 ?l6 ?c6 ?k6 ?a7 ?l7 ?c7 ?k7 ?a8 ?l8 ?c8 ?k8 ?a9 ?l9 ?c9 ?k9 ?a10 ?l10 ?c10 ?k10 ?a11 ?l11 ?c11 ?k11 ?a12 ?l12 ?c12 ?k12 ?a13 ?l13 ?c13 ?k13 ?a14 ?l14 ?c14 ?k14 ?a15 ?l15 ?c15 ?k15 ?a16 ?l16 ?c16 ?k16 ?a17 ?l17 ?c17 ?k17 ?a18 ?l18 ?c18 ?k18 ?a19 ?l19 ?c19 ?k19 ?a20 ?l20 ?c20 ?k20 ?a21 ?l21 ?c21 ?k21 ?a22 ?l22 ?c22 ?k22 ?a23 ?i23 ?l23 ?c23 ?k23 ?a24 ?l24 ?c24 ?k24 ?a25 ?l25 ?c25 ?k25 ?a26 ?i26 ?l26 ?c26 ?k26 ?a27 ?i27 ?l27 ?c27 ?k27 ?a28 ?i28 ?l28 ?c28 ?k28 ?a29 ?i29 ?l29 ?c29 ?k29 ?a30 ?i30 ?l30 ?c30 ?k30 ?a31 ?i31 ?l31 ?c31 ?k31 ?a32 ?l32 ?c32 ?k32 ?a33 ?l33 ?c33 ?k33 ?a34 ?i34 ?l34 ?c34 ?k34 ?a35 ?l35 ?c35 ?k35 ?a36 ?l36 ?c36 ?k36 ?z_all ?z_bool ?z_enumerate ?z_int ?z_isinstance ?z_len ?z_max ?z_range ?z_sum ?z_tuple
    (case aC=>k_is)
    (case pC=>k_is)
    (case hC=>k_is)
    (case oC=>k_is)
    (case sC=>k_is)
    (case mC=>k_is)
    (case kC=>k_is)
    (case n_book=>k_is)
    (case n_held=>k_is)
    (case n_unanswered=>k_is)
    (case n_moves=>k_is)
    (case a0=>k_is)
    (case l0=>k_is)
    (case c0=>k_is)
    (case k0=>k_is)
    (case a1=>k_is)
    (case l1=>k_is)
    (case c1=>k_is)
    (case k1=>k_is)
    (case a2=>k_is)
    (case l2=>k_is)
    (case c2=>k_is)
    (case k2=>k_is)
    (case a3=>k_is)
    (case l3=>k_is)
    (case c3=>k_is)
    (case k3=>k_is)
    (case a4=>k_is)
    (case l4=>k_is)
    (case c4=>k_is)
    (case k4=>k_is)
    (case a5=>k_is)
    (case l5=>k_is)
    (case c5=>k_is)
    (case k5=>k_is)
    (case a6=>k_is)
    (case l6=>k_is)
    (case c6=>k_is)
    (case k6=>k_is)
    (case a7=>k_is)
    (case l7=>k_is)
    (case c7=>k_is)
    (case k7=>k_is)
    (case a8=>k_is)
    (case l8=>k_is)
    (case c8=>k_is)
    (case k8=>k_is)
    (case a9=>k_is)
    (case l9=>k_is)
    (case c9=>k_is)
    (case k9=>k_is)
    (case a10=>k_is)
    (case l10=>k_is)
    (case c10=>k_is)
    (case k10=>k_is)
    (case a11=>k_is)
    (case l11=>k_is)
    (case c11=>k_is)
    (case k11=>k_is)
    (case a12=>k_is)
    (case l12=>k_is)
    (case c12=>k_is)
    (case k12=>k_is)
    (case a13=>k_is)
    (case l13=>k_is)
    (case c13=>k_is)
    (case k13=>k_is)
    (case a14=>k_is)
    (case l14=>k_is)
    (case c14=>k_is)
    (case k14=>k_is)
    (case a15=>k_is)
    (case l15=>k_is)
    (case c15=>k_is)
    (case k15=>k_is)
    (case a16=>k_is)
    (case l16=>k_is)
    (case c16=>k_is)
    (case k16=>k_is)
    (case a17=>k_is)
    (case l17=>k_is)
    (case c17=>k_is)
    (case k17=>k_is)
    (case a18=>k_is)
    (case l18=>k_is)
    (case c18=>k_is)
    (case k18=>k_is)
    (case a19=>k_is)
    (case l19=>k_is)
    (case c19=>k_is)
    (case k19=>k_is)
    (case a20=>k_is)
    (case l20=>k_is)
    (case c20=>k_is)
    (case k20=>k_is)
    (case a21=>k_is)
    (case l21=>k_is)
    (case c21=>k_is)
    (case k21=>k_is)
    (case a22=>k_is)
    (case l22=>k_is)
    (case c22=>k_is)
    (case k22=>k_is)
    (case a23=>k_is)
    (case i23=>k_is)
    (case l23=>k_is)
    (case c23=>k_is)
    (case k23=>k_is)
    (case a24=>k_is)
    (case l24=>k_is)
    (case c24=>k_is)
    (case k24=>k_is)
    (case a25=>k_is)
    (case l25=>k_is)
    (case c25=>k_is)
    (case k25=>k_is)
    (case a26=>k_is)
    (case i26=>k_is)
    (case l26=>k_is)
    (case c26=>k_is)
    (case k26=>k_is)
    (case a27=>k_is)
    (case i27=>k_is)
    (case l27=>k_is)
    (case c27=>k_is)
    (case k27=>k_is)
    (case a28=>k_is)
    (case i28=>k_is)
    (case l28=>k_is)
    (case c28=>k_is)
    (case k28=>k_is)
    (case a29=>k_is)
    (case i29=>k_is)
    (case l29=>k_is)
    (case c29=>k_is)
    (case k29=>k_is)
    (case a30=>k_is)
    (case i30=>k_is)
    (case l30=>k_is)
    (case c30=>k_is)
    (case k30=>k_is)
    (case a31=>k_is)
    (case i31=>k_is)
    (case l31=>k_is)
    (case c31=>k_is)
    (case k31=>k_is)
    (case a32=>k_is)
    (case l32=>k_is)
    (case c32=>k_is)
    (case k32=>k_is)
    (case a33=>k_is)
    (case l33=>k_is)
    (case c33=>k_is)
    (case k33=>k_is)
    (case a34=>k_is)
    (case i34=>k_is)
    (case l34=>k_is)
    (case c34=>k_is)
    (case k34=>k_is)
    (case a35=>k_is)
    (case l35=>k_is)
    (case c35=>k_is)
    (case k35=>k_is)
    (case a36=>k_is)
    (case l36=>k_is)
    (case c36=>k_is)
    (case k36=>k_is)
    (case z_all=>k_is)
    (case z_bool=>k_is)
    (case z_enumerate=>k_is)
    (case z_int=>k_is)
    (case z_isinstance=>k_is)
    (case z_len=>k_is)
    (case z_max=>k_is)
    (case z_range=>k_is)
    (case z_sum=>k_is)
    (case z_tuple=>k_is)
