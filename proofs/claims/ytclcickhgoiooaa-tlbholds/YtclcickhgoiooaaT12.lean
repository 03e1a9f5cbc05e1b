/- demesnelaw15: lines. -/
import Derived.Test.YtclcickhgoiooaaT8
namespace Go.Proofs.Ytclcickhgoiooaa
open Go.RowKit
end Go.Proofs.Ytclcickhgoiooaa
